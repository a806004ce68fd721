import PyProof.Rows.All
import Wide.All
import OpenK.AllK
import Wide.FinOn
import Lean
import PyProof.EqAt
import PyProof.EqKinds
import PyProof.TupleCall
import PyProof.Rows.SetFrom
import KE.KSortTup
import PyProof.Draws
import PyProof.EnumMake
import PyProof.ListRange
import PyProof.Rows.EnumRows
import PyProof.SetRoads
import PyProof.Rows.MinMaxN
import PyProof.Rows.MaxTwoN
import PyProof.ZipIter
import PySem.Challenge.RW_ringtrade_k31_orders_and_squares_refused
noncomputable section
open PySem renaming Value->a_,wpAny_bind->b_,Shared->d_,starEach->h_,wpAny_pure->j_,wpAny->q_,Program->A_,model->D_,Around->K_,World->M_,mainGlobals->N_,compareOp->QG,sizeLine_eq->QK,wpAny_mono->QP,wpAny_field->QQ,mem_of_lookup->QR,excClassObj->Q2,FuncData->Q7,wpAny_typeOf_ref->Rj,wpAny_holding->Ro,wpAny_pyIter_tuple->Rr,foldedSetIterable->Rv,wpAny_newObj_type->Rx,Builtin->RE,assignEach->RJ,attributeBase->RN,wpAny_truthy_bool->RQ,wpAny_callSpecial?_slot->RT,wpAny_isSubtype_exc->RZ,cLine->R6,wpAny_Call_Name_kw->R7,wpAny_seqItems->R_,wpAny_setField_rec->Sa,wpAny_passesOwn->Sf,behindInMarks->Si,IsPair->Sm,binaryOp->Ss,wpAny_call_entry->Su,wpAny_setField->Sv,Scope->Sz,sysModules->SH,bootBuiltins->SJ,wpAny_execs_nil->SL,wpAny_loadPart'->SM,setFlight->SX,wpAny_pyIter_list->S4,wpAny_loadPart_at->S9,wpAny_call->Ta,NameKind->Tb,codeAny_call_builtin->Tc,wpAny_standAt->Tj,bindArgs->Tk,tupleKind_room_in1->Tt,sliceBounds->Tz,rawInt->TD,codeAny_mono->TF,wpAny_pyIter_enum->TQ,wpAny_loadPart->TR,swapsWith->TY,noteFrame->TZ,Keyword->T5,wpAny_onRaise->T7,keywordEach->T9,wpAny_updateSeq_pair->T_,unbindBehindTheSuite->Ua,evalEach->Ub,letOwnedTupleGo->Ue,holding->Uo,callType_new->Us,assign->Uv,recursionLimit->Uw,wpAny_newFunctionEnv_cells->Ux,wpAny_letOwnedTupleGo_enum->UC,IsZip->UD,isInstance->UE,codeAny->UK,wpAny_comprehension_free->UR,wpAny_attempt->UU,PassesOwn->UW,noFill_tuple_add->UY,wpAny_pyNext_enum_itemD->U0,checkBuiltinCall->U1,BindsTo->U8,concat_meets->U9,call_meets->Vb,callerA->Vd,OwnTail->Ve,notedBy->Vf,wpAny_rule->Vh,wpAny_pyNext_enum_endD->Vi,codeAny_call_function->Vm,backToKw->Vr,compEnvC->Vv,tupleKind->VD,cellsFrom->VE,valueAt->VF,handedOut->VG,codeAny_forLoop_any->VI,seq_tuple_add->VP,Draws->VQ,IsPart->VW,PlainAttrs->VX,Model->V7,wpAny_assign_Name->V8,getItem->V_,slot_list_getitem->Wa,relabel->We,wpAny_mkText->Wj,wpAny_execs_cons->Wo,pyNext->Wp,lastMarks->Wq,typeOf->Wu,seqItems?->Ww,wpAny_isInstance->WA,wpAny_pyIter_zip->WC,CmpOp->WM,bindL->WN,bindC->WO,seqIndex_of->WP,atKey->WQ,wpAny_letGo->WR,standAt->W4,argBest->W5,builtinsNs->W6,GenState->W7,wpAny_Name->W8,wpAny_load->W9,typeIs_int->Xc,call->Xe,closureFor->Xi,field->Xj,Arguments->X7,setItem->X_,Result->Yb,cellOf->Yd,sub_zip->Yh,Meets->Yn
open List renaming getElem?_eq_some_iff->c_,getElem?_set_ne->f_,getElem?_eq_getElem->g_,mem_cons_self->k_,mem_cons_of_mem->m_,getElem?_set_self->n_,size_toArray->o_,length_map->p_,mem_filter->t_,mem_singleton->u_,mem_cons->w_,replicate->y_,mem_map->B_,range->C_,getD_eq_getElem?_getD->E_,getElem?_map->F_,mem_append_right->H_,getElem?_append_left->I_,length_append->L_,map_cons->QE,find?_cons->QH,mem_range->QJ,length_take->QM,map_map->QT,mem_append->QW,append_nil->QX,length_drop->QY,not_mem_nil->QZ,map_append->Q0,mem_of_getElem?->Q1,find?_eq_none->Q3,getElem?_append_right->Q6,length_cons->Q8,filterMap_cons->Rb,replicate_succ->Rc,getElem?_replicate->Re,filter_cons->Rk,flatten_cons->Rm,mem_filterMap->Rq,ne_nil_of_mem->Rs,mem_append_left->Rt,append_assoc->Ry,Nodup->RC,map_congr_left->RD,drop_eq_getElem_cons->RF,length_replicate->RH,contains_iff_mem->RI,all_eq_true->RL,getElem?_take->RM,nodup_append->RU,nodup_cons->RX,map_nil->R3,length_pos_of_mem->R4,idxOf_lt_length_of_mem->R5,contains_cons->R8,getElem?_drop->Sb,mem_of_find?_eq_some->Sd,exists_mem_of_ne_nil->Se,getElem?_of_mem->Sh,length_pos_iff->Sq,lookup_cons->Sw,mem_flatten->Sy,length_set->SN,find?_some->SR,all->SU,any_cons->SV,length_singleton->SY,length_filter_le->S0,take_append_drop->S1,zipWith->Te,drop_length->Tf,length_erase_of_mem->To,length_nil->Tr,forIn_cons->Ts,length->Tw,getElem?_eq_none->TW,any_eq_true->T3,nodup_range->T4,all_cons->T6,mem_of_mem_drop->Uc,of_mem_zip->Uf,map_const'->Ug,length_zipWith->Uj,getElem?_range->Uk,any_map->Uq,filter_filter->UH,drop_zero->UI,mem_or_eq_of_mem_set->UJ,take_sublist->UL,getElem?_take_of_lt->UP,take_of_length_le->Vg,getElem?_zipWith->Vn,take_eq_take_iff->Vp,forIn_nil->Vx,lookup->VA,mem_erase_of_ne->VB,mem_of_mem_take->VC,filter_eq_self->VN,zip_cons_cons->VV,getElem_idxOf->V5,length_range->Wf,getElem?_set->Wh,ext_getElem?->Wi,getElem_inj->Wn,ext_getElem->Wx,getElem_mem->Wy,zipIdx_cons->Wz,flatMap_def->WJ,foldl_cons->WU,nil_append->WV,zipIdx_nil->WY,range_succ->W0,length_zip->W3,foldl->Xd,nodup_nil->Xo,map_take->X5,map_drop->X6
open PySem.Heap renaming get?_push_of_some->e_,lt_size->s_,get?_push_size->x_,get?_update_self->Q4,get?_update_ne->Q5,size_push->R9,get?_none_of_le->Sg,FunFrames->TK,SameBut->Um,IsTuple->Ur,get?_update_other->Va,IsList->Vy,get?_push_at->Wk,MadeExcOf->Xn,ExtBut->Yo
open Bool renaming false_ne_true->i_,and_eq_true->J_,eq_iff_iff->P_,not_eq_true'->S2,or_true->TM,false_eq_true->VZ,false_and->W_
open PySem.Str renaming ofString->l_
open Nat renaming le_refl->r_,lt_of_lt_of_le->G_,ne_of_lt->O_,le_trans->QI,zero_le->QU,lt_irrefl->Ri,ne_of_gt->R1,mod_lt->Td,lt_succ_self->T0,le_of_lt->Ul,le_of_eq->Up,lt_succ_of_lt->UN,mod_eq_of_lt->U5,lt_of_succ_lt_succ->Vj,le_succ->Vt,add_le_add_left->VJ,lt_of_le_of_lt->VY,add_comm->Wb,zero_add->Wg,min_le_right->Wt,succ_le_succ->Wv,min_eq_left->W2,mul_comm->Yc,add_zero->Yi,sub_zero->Yk
open Option.some renaming inj->z_,injEq->V6
open Array renaming getElem?_setIfInBounds_self_of_lt->QD,getElem?_eq_some_iff->Rf,length_toList->So,getElem?_toList->SZ,perm_iff_toList_perm->UB,toArray_toList->Vw,append_assoc->VT,ext_getElem?->V0,toList->X9,getD->Yr,ext'->Ys
open False renaming elim->QF
open PySem.F renaming plainAttrs_list->QN,slot_list_append->Q9,type_list_append->Q_,slot_dict_update->Sl,plainAttrs_dict->Sx,args_tuple_add_2->Tl,type_dict_update->Tp,entry_tuple_add->Tx,slot_list_index->TB,slot_tuple_add->TH,excBase_ValueError->UG,slot_list_insert->US,slot_dict_values->UT,store_ValueError->UV,type_list_index->U4
open PySem.Obj renaming mapFields->QO,mapSeq->SK,data_mapFields->V1
open PySem.PassesOwn renaming never->QS
open PySem.Builtin.SmallTypes renaming nextOf->QV,ownedTupleIsFree->Rp,ownedTupleHandOut->Ti
open PySem.PyData renaming canLay0->Rh,eqv->Rz,depth->RA,eqvAll->RP,canLayAll0->UO,depthAll->Vl,strOk->Ye
open PyProof.Rows renaming callWith_type1->Ru,slot_tuple_getitem->RY,envOfC->Sj,IntsAre->Tq,AllBare->TC,boot_isinstance->Uh,seqObj->UQ,subscriptTail_builtinR->U_,boot_min->Vo,callWith_builtin1->Ws,IsTup->WL,get?_update_seq->WW,boot_range->Xa,assign_Tuple->XB,boot_sorted->X2
open Int renaming toNat_natCast->Rw,natCast_nonneg->Tv,ofNat_inj->T8,toNat_of_nonneg->VO,natCast_ediv->WI,natCast_add->W1,ofNat_lt->Yj,le_refl->Yp
open LawfulBEq renaming eq_of_beq->RK
open PySem.Builtin.Str renaming occurrences->RS
open PySem.Builtin.Slice renaming slicePlaces->Sc,sliceAdjust->Tg,sliceApplied->Uz,slicePartIndex->WS,sliceFields->Xz
open PySem.Builtin.Tuple renaming tupleExact->Sk,tupleCompareSizes->Wl,tupleItemsOf->Xb
open Ne renaming symm->Sn
open Function renaming comp_apply->Sr,comp_def->S_
open PySem.Shared renaming heap->SD
open Classical renaming byContradiction->Th
open PySem.Builtin.List renaming listTooLong->Tn,listFitsIndex->UA
open PySem.W renaming findIn->Tu,looks_findIn->TU,hideAll_get->Vu,kitOne->V3,hideAll->Wc,hideAll_none->Wd,specialIn->WE,isNs_of_in->Xg,of_hideAll->Xh
open PySem.Calls renaming callWith_builtin->TJ,Name_function_global->Uu,evalArgs_plain->Vs
open PySem.Challenge renaming pw_ringtrade_k31_orders_and_squares_refused->TV,rw_ringtrade_k31_orders_and_squares_refused->TX
open PySem.Builtin.ObjectAttr renaming storeInDict->T2,attrName->Ut,find->U3,ownThenClass->Wm,takesStores->WF,newKeyGuard->WG,inOwnDict->WZ,ownDict->Xm,bindTo->XD
open Option renaming map_some->Ud,isSome_map->UM,getD_none->UZ,map_eq_some_iff->Vc,getD_some->WH,map_none->WX,isSome->X4
open PySem.Heap.SameBut renaming update->Ui
open PySem.SeqAt.EqAt renaming int_int->Uy,int_str->VR,str_int->VS,same->WT
open PySem.Bind renaming checkArgs->UF
open PySem.Builtin.Range renaming rangeSize->UX
open PySem.Builtin.Getset_descriptor renaming descrCheckInstance->U2,descrNameAndClass->U6,descrGetArgs->Vz,descrGetter->VH,descrGet->V2
open PySem.Around renaming under->U7,frames_deeper->Vq
open PySem.Heap.Ns renaming of_isNs->Vk
open PySem.EntryCells renaming newEntry->VL
open PySem.BindsTo renaming of_defaults->VM
open PySem.SeqAt renaming EqAt->VU,shaped->Yf
open PySem.Code renaming quiet_builtin->V4,isFrame->V9,isGuard->Ya,frames->Ym
open PySem.Heap.IsList renaming push->WB
open Sum.inl renaming inj->WK
open PyProof.Rows.SortSt renaming mk'->Xf
open PySem.Draws renaming list->Xk
open PyProof.Rows.IntsAre renaming int_at->Xl,nums->Yg
open PySem.EqNone renaming eq_none_none->Xp,eq_none_bool->Xq,eq_bool_none->Xr,ne_none_none->Xu,ne_none_bool->Xv,ne_bool_none->Xw,eq_none_int->XG,eq_none_str->XH,eq_int_none->XJ,eq_str_none->XQ,ne_none_int->XU,ne_none_str->XV,ne_int_none->XY,ne_str_none->X0
open PySem.EqMixed renaming eq_bool_str->Xs,eq_str_bool->Xt,ne_bool_str->Xx,ne_str_bool->Xy,eq_int_str->XM,eq_str_int->XS,ne_int_str->XZ,ne_str_int->X1
open PySem.Value renaming isStrOf->XE,isInt->Yl
open List.Pairwise renaming imp_of_mem->X3
open PyProof.Rows.IsTup renaming new->X8
open PySem.W.WShape renaming has->Yq
set_option Elab.async false
set_option linter.all false
set_option maxRecDepth 100000
set_option maxHeartbeats 4000000
section
namespace L2
open PySem PySem.Spec PyProof.Rows
abbrev bQ:=Sum Int Str
def oj:bQ->a_->Bool
|.inl k,v=>Yl k v
|.inr x,v=>XE x v
def Br(w:M_):bQ->Int
|.inl k=>hashInt k
|.inr x=>hashStr w x
theorem keyIs_shape:∀{k:bQ}{v:a_},oj k v=true->(∃i t,k=Sum.inl i/\v=Value.int i t)\/(∃x t,k=Sum.inr x/\v=Value.str x t)
|.inl i,v,h=>by obtain⟨t,e⟩:=Value.isInt_shape (k:=i) (v:=v) h;exact .inl ⟨i,t,rfl,e⟩
|.inr x,v,h=>by obtain⟨t,e⟩:=Value.isStrOf_shape (x:=x) (v:=v) h;exact .inr ⟨x,t,rfl,e⟩
theorem NF(i:Int)(t:Tok):oj (.inl i) (.int i t)=true:=by simp[oj,Yl]
theorem On(x:Str)(t:Tok):oj (.inr x) (.str x t)=true:=by simp[oj,XE]
theorem HV(a b:Int):decide ((Sum.inl a:bQ)=Sum.inl b)=(a==b):=by
 by_cases e:a=b
 .subst e;simp
 .have h:¬ (Sum.inl a:bQ)=Sum.inl b:=fun q=>e (WK q);rw[decide_eq_false h];exact(beq_eq_false_iff_ne.mpr e).symm
theorem HY(a b:Str):decide ((Sum.inr a:bQ)=Sum.inr b)=decide (a=b):=by
 by_cases e:a=b
 .subst e;simp
 .have h:¬ (Sum.inr a:bQ)=Sum.inr b:=fun q=>e (Sum.inr.inj q);rw[decide_eq_false h,decide_eq_false e]
theorem HW(a:Int)(b:Str):decide ((Sum.inl a:bQ)=Sum.inr b)=false:=decide_eq_false (fun q=>nomatch q)
theorem HX(a:Str)(b:Int):decide ((Sum.inr a:bQ)=Sum.inl b)=false:=decide_eq_false (fun q=>nomatch q)
def hX(prog:A_)(w:M_):PySem.KeyKind prog w bQ where
 is:=oj
 hash:=Br w
 inj:=fun v a b ha hb=>by
  rcases keyIs_shape ha with⟨i,t,rfl,rfl⟩|⟨x,t,rfl,rfl⟩
  .rcases keyIs_shape hb with⟨j,u,rfl,e⟩|⟨y,u,rfl,e⟩
   .injection e with e1 _;rw[e1]
   .exact nomatch e
  .rcases keyIs_shape hb with⟨j,u,rfl,e⟩|⟨y,u,rfl,e⟩
   .exact nomatch e
   .injection e with e1 _;rw[e1]
 byValue:=fun k v h=>by rcases keyIs_shape h with⟨i,t,rfl,rfl⟩|⟨x,t,rfl,rfl⟩ <;> rfl
 pyHash:=fun hv h=>by
  rcases keyIs_shape hv with⟨i,t,rfl,rfl⟩|⟨x,t,rfl,rfl⟩
  .exact wpAny_pyHash_int h
  .exact wpAny_pyHash_str h
 eqBool:=fun hu hv h=>by
  rcases keyIs_shape hu with⟨i,t,rfl,rfl⟩|⟨x,t,rfl,rfl⟩
  .rcases keyIs_shape hv with⟨j,u,rfl,rfl⟩|⟨y,u,rfl,rfl⟩
   .rw[HV]at h;exact wpAny_eqBool_int h
   .rw[HW]at h;exact VR i t y u _ _ _ _ h
  .rcases keyIs_shape hv with⟨j,u,rfl,rfl⟩|⟨y,u,rfl,rfl⟩
   .rw[HX]at h;exact VS x t j u _ _ _ _ h
   .rw[HY]at h;exact wpAny_eqBool_str h
 «strs»:=fun k x t v h=>by
  rcases keyIs_shape h with⟨i,u,rfl,e⟩|⟨y,u,rfl,e⟩
  .exact nomatch e
  .injection e with e1 _
   subst e1;cases v <;> rfl
theorem Pn(prog:A_)(w:M_)(i:Int)(t:Tok):(hX prog w).is (.inl i) (.int i t)=true:=NF i t
theorem Po(prog:A_)(w:M_)(x:Str)(t:Tok):(hX prog w).is (.inr x) (.str x t)=true:=On x t
inductive V where
 |non|bl (b:Bool)|int (i:Int)|str (x:Str)|byt (b:Array UInt8)|flt (b:UInt64)|ref (a:Addr)|ty (n:String)
 deriving DecidableEq
def aY:V->a_->Prop
|.non,u=>u=Value.none
|.bl b,u=>u=Value.bool b
|.int i,u=>∃t,u=Value.int i t
|.str x,u=>∃t,u=Value.str x t
|.byt b,u=>∃t,u=Value.bytes b t
|.flt b,u=>∃t,u=Value.float b t
|.ref a,u=>u=Value.ref a
|.ty n,u=>u=Value.type n
abbrev aU:List V->List a_->Prop:=Paired aY
theorem aU.length{xs:List V}{us:List a_}(r:aU xs us):xs.length=us.length:=Paired.length r
theorem aU.get:∀{xs:List V}{us:List a_}{i:Nat}{x:V},aU xs us->xs[i]? = some x->∃u,us[i]? = some u/\aY x u
|_,_,_,_,.nil,e=>by simp at e
|_,_,0,_,.cons r _,e=>by simp at e;subst e;exact⟨_,rfl,r⟩
|_,_,i+1,x,.cons _ t,e=>by obtain⟨u,h1,h2⟩:=aU.get (i:=i) (x:=x) t (by simpa using e);exact⟨u,by simpa using h1,h2⟩
theorem aU.set{x:V}{u:a_}(r:aY x u):∀{xs:List V}{us:List a_}(i:Nat),aU xs us->aU (xs.set i x) (us.set i u)
|_,_,_,.nil=>.nil
|_,_,0,.cons _ t=>.cons r t
|_,_,i+1,.cons q t=>.cons q (aU.set r i t)
theorem aU.append{xs ys:List V}{us ws:List a_}(h:aU xs us)(h':aU ys ws):aU (xs++ys) (us++ws):=by induction h with
|nil=>exact h'
|cons r _ ih=>exact .cons r ih
theorem aU.take:∀{xs:List V}{us:List a_}(n:Nat),aU xs us->aU (xs.take n) (us.take n)
|_,_,0,_=>.nil
|_,_,_+1,.nil=>.nil
|_,_,n+1,.cons r t=>.cons r (aU.take n t)
theorem aU.drop:∀{xs:List V}{us:List a_}(n:Nat),aU xs us->aU (xs.drop n) (us.drop n)
|_,_,0,r=>r
|_,_,_+1,.nil=>.nil
|_,_,n+1,.cons _ t=>aU.drop n t
def fE:Option V->Option a_->Prop
|some v,some u=>aY v u
|none,none=>True
|_,_=>False
def KV{κ:Type}:List (κ×V)->List (κ×a_)->Prop:=Paired fun(p:κ×V)(q:κ×a_)=>p.1=q.1/\aY p.2 q.2
def kV:bQ->V
|.inl i=>.int i
|.inr x=>.str x
inductive HO where
 |lst (xs:List V)
 |tup (xs:List V)
 |dK (kvs:List (bQ×V))|dT (kvs:List (List bQ×V))
 |set (S:Int->Bool) (n:Nat)
 |ins (C dx:Addr) (fs:List (Str×V))
 |own (x:Addr)
 |xd (fs:List (Str×V))
 |met (f x:Addr)
 |rng (lo hi:Int)
 |frz (o:Obj) (u:HO)
 |tbl (ps:Array a_)
 |ext (φ:Heap->Prop)
abbrev Hp:=Addr->Option HO
def upd(H:Hp)(a:Addr)(o:HO):Hp:=fun b=>if b=a then some o else H b
theorem du{H:Hp}{a:Addr}{o:HO}:upd H a o a=some o:=by unfold upd;rw[if_pos rfl]
theorem cM{H:Hp}{a b:Addr}{o:HO}(h:b≠a):upd H a o b=H b:=by unfold upd;rw[if_neg h]
theorem GM{H:Hp}{a b:Addr}{o u:HO}(h:H a=some o)(h':H b=some u)(d:o≠u):a≠b:=by intro e;subst e;rw[h]at h';exact d (z_ h')
theorem mi{H:Hp}{a b:Addr}{o:HO}(h:H a=some o)(h':H b=none):a≠b:=by intro e;subst e;rw[h]at h';cases h'
section
variable(P:A_)(w:M_)
def dz(H:Hp)(h:Heap)(a:Addr):HO->Prop
|.lst xs=>xs.length<=sizeLine/\∃(its:List a_)(n:Nat),aU xs its/\h.get? a=some { cls:=.type "list",data:=.seq its.toArray n }
|.tup xs=>xs.length<=sizeLine/\∃its:List a_,aU xs its/\WL h a its.toArray/\∃o,h.get? a=some o/\o.dict=none
|.dK kvs=>kvs.length<=sizeLine/\(a==SH)=false/\∃vs,KV kvs vs/\h.DictOf (hX P w) a vs
| .dT kvs=>kvs.length<=sizeLine/\(a == SH)=false/\∃xs:List (List bQ × Addr × a_),
   Paired (fun(p:List bQ×V)(q:List bQ×Addr×a_)=>p.1=q.1/\H q.2.1=some (.tup (p.1.map kV))/\aY p.2 q.2.2) kvs xs /\∃o es ep,h.get? a=some o/\o.ExactDict/\o.data=.dict es ep/\es.toList=xs.map (entryOfKey (VD (hX P w)))/\(xs.map (·.1)).Nodup
|.set S n=>h.SetOf (intKind P w) a S n
| .ins C dx fs=>H dx=some (.own a)/\fs.length<=1000/\dx≠a/\h.get? a=some (W.instObj C dx) /\
   ∃mA,h.Ns1 dx mA/\(∀f,fE (fs.lookup f) (mA f))/\PySem.Within mA (fs.map (·.1))
|.own _=>∃o,h.get? a=some o
|.xd fs=>∃mA,h.Ns1 a mA/\∀f,fE (fs.lookup f) (mA f)
|.rng lo hi=>∃t u v,h.get? a=some { cls:=.type "range",data:=.fields #[.int lo t,.int hi u,.int 1 v] }
|.frz o u=>h.get? a=some o/\dz H h a u
|.tbl ps=>h.get? a=some { cls:=.none,data:=.fields ps }
|.met f x=>h.get? a=some (W.methodObj (.ref f) (.ref x))
|.ext φ=>φ h/\(∃o,h.get? a=some o)/\∀h1 h2:Heap,φ h1->(∀o,h1.get? a=some o->h2.get? a=some o)->φ h2
def dR(H:Hp)(h:Heap):Prop:=∀a o,H a=some o->dz P w H h a o
end
section
variable{P:A_}{w:M_}{H H':Hp}{h h':Heap}{a:Addr}{o:HO}
theorem dz.lt(x:dz P w H h a o):a<h.objs.size:=by cases o with
|lst xs=>obtain⟨_,_,_,_,e⟩:=x;exact s_ e
|tup xs=>obtain⟨_,_,_,p,_⟩:=x;exact p.lt
|dK kvs=>obtain⟨_,_,_,_,o,_,_,e,_⟩:=x;exact s_ e
|dT kvs=>obtain⟨_,_,_,_,o,_,_,e,_⟩:=x;exact s_ e
|set S n=>obtain⟨o,_,_,_,e,_⟩:=x;exact s_ e
|ins C dx fs=>obtain⟨_,_,_,e,_⟩:=x;exact s_ e
|own y=>obtain⟨_,e⟩:=x;exact s_ e
|xd fs=>obtain⟨_,⟨_,_,_,e,_⟩,_⟩:=x;exact s_ e
|rng lo hi=>obtain⟨_,_,_,e⟩:=x;exact s_ e
|frz ob u=>obtain⟨e,_⟩:=x;exact s_ e
|tbl ps=>exact s_ (show h.get? a=some _ from x)
|met f y=>exact s_ (show h.get? a=some _ from x)
|ext φ=>obtain⟨_,⟨_,e⟩,_⟩:=x;exact s_ e
theorem Paired.mapP{α β:Type}{F G:α->β->Prop}{l₁:List α}{l₂:List β}(h:Paired F l₁ l₂)(f:∀a b,F a b->G a b):Paired G l₁ l₂:=by induction h with
|nil=>exact .nil
|cons r _ ih=>exact .cons (f _ _ r) ih
theorem dz.stay(x:dz P w H h a o)(k:∀b u,(b=a\/H b=some (.own a))->h.get? b=some u->h'.get? b=some u)(ho:∀b,H b=some (.own a)->H' b=some (.own a))(ht:∀b xs,H b=some (.tup xs)->H' b=some (.tup xs)):dz P w H' h' a o:=by induction o with
|lst xs=>obtain⟨z,its,n,r,e⟩:=x;exact⟨z,its,n,r,k _ _ (.inl rfl) e⟩
|tup xs=>obtain⟨z,its,r,⟨ob,e,c⟩,ob2,e2,c2⟩:=x;exact⟨z,its,r,⟨ob,k _ _ (.inl rfl) e,c⟩,ob2,k _ _ (.inl rfl) e2,c2⟩
|dK kvs=>obtain⟨z,y,vs,r,ob,es,ep,e,c⟩:=x;exact⟨z,y,vs,r,ob,es,ep,k _ _ (.inl rfl) e,c⟩
|dT kvs=>obtain⟨z,y,xs,r,ob,es,ep,e,c⟩:=x;exact⟨z,y,xs,Paired.mapP r fun p q z=>⟨z.1,ht _ _ z.2.1,z.2.2⟩,ob,es,ep,k _ _ (.inl rfl) e,c⟩
|set S n=>obtain⟨ob,es,ep,t,e,c⟩:=x;exact⟨ob,es,ep,t,k _ _ (.inl rfl) e,c⟩
|ins C dx fs=>obtain⟨d,z,ne,e,mA,⟨od,es,ep,e2,c⟩,r⟩:=x;exact⟨ho _ d,z,ne,k _ _ (.inl rfl) e,mA,⟨od,es,ep,k _ _ (.inr d) e2,c⟩,r⟩
|own y=>obtain⟨ob,e⟩:=x;exact⟨ob,k _ _ (.inl rfl) e⟩
|xd fs=>obtain⟨mA,⟨od,es,ep,e,c⟩,r⟩:=x;exact⟨mA,⟨od,es,ep,k _ _ (.inl rfl) e,c⟩,r⟩
|rng lo hi=>obtain⟨t,u,v,e⟩:=x;exact⟨t,u,v,k _ _ (.inl rfl) e⟩
|frz ob u ih=>obtain⟨e,q⟩:=x;exact⟨k _ _ (.inl rfl) e,ih q⟩
|tbl ps=>have e:h.get? a=some { cls:=.none,data:=.fields ps }:=x;show h'.get? a=some { cls:=.none,data:=.fields ps };exact k a _ (.inl rfl) e
|met f y=>have e:h.get? a=some (W.methodObj (.ref f) (.ref y)):=x;show h'.get? a=some (W.methodObj (.ref f) (.ref y));exact k a _ (.inl rfl) e
|ext φ=>obtain⟨p,⟨o,e⟩,st⟩:=x;exact⟨st _ _ p fun o q=>k _ _ (.inl rfl) q,⟨o,k _ _ (.inl rfl) e⟩,st⟩
theorem dR.lt(x:dR P w H h)(e:H a=some o):a<h.objs.size:=(x a o e).lt
theorem dR.fresh(x:dR P w H h)(e:h.objs.size<=a):H a=none:=by cases q:H a with
|none=>rfl
|some u=>exact absurd (G_ (x.lt q) e) (Ri _)
theorem dR.kept(x:dR P w H h)(k:∀b u,h.get? b=some u->h'.get? b=some u):dR P w H h':=fun a o e=>(x a o e).stay (fun b u _ q=>k b u q) (fun _ q=>q) fun _ _ q=>q
theorem dR.laid(x:dR P w H h)(k:∀b u,h.get? b=some u->h'.get? b=some u)(hp:h.objs.size<=a)(new:dz P w (upd H a o) h' a o):dR P w (upd H a o) h':=fun b u e=>by
 have hn:=x.fresh hp;by_cases hb:b=a
 .subst hb;rw[du]at e;cases e;exact new
 .rw[cM hb]at e;exact(x b u e).stay (fun c v _ q=>k c v q) (fun c q=>by rw[cM (mi q hn)];exact q) fun c xs q=>by rw[cM (mi q hn)];exact q
end
def Rd(H:Hp)(a:Addr)(u:HO):Prop:=H a=some u\/∃o,H a=some (.frz o u)
theorem Rd.ok{P:A_}{w:M_}{H:Hp}{h:Heap}{a:Addr}{u:HO}(r:Rd H a u)(x:dR P w H h):dz P w H h a u:=by
 rcases r with r|⟨o,r⟩
 .exact x a u r
 .obtain⟨_,q⟩:=x a _ r;exact q
def rE:Option HO->Prop
|some (.lst _)=>True
|some (.dK _)=>True
|some (.dT _)=>True
|some (.set _ _)=>True
|some (.ins _ _ _)=>True
|some (.ext _)=>True
|_=>False
section
variable{P:A_}{w:M_}{H:Hp}{h h':Heap}{x e:Addr}{o':HO}
theorem dR.write(ok:dR P w H h)(mu:rE (H x))(he:e=x\/H e=some (.own x))(k:∀b u,b≠e->h.get? b=some u->h'.get? b=some u)(heo:∃u,h'.get? e=some u)(new:dz P w (upd H x o') h' x o'):dR P w (upd H x o') h':=fun b u q=>by
 have nown:∀c y,H c=some (.own y)->c≠x:=fun c y r z=>by subst z;rw[r]at mu;exact mu
 have ntup:∀c xs,H c=some (.tup xs)->c≠x:=fun c xs r z=>by subst z;rw[r]at mu;exact mu
 by_cases hb:b=x
 .subst hb;rw[du]at q;cases q;exact new
 .rw[cM hb]at q;by_cases hbe:b=e
  .have q':H b=some (.own x):=by
    rcases he with z|z
    .exact absurd (hbe.trans z) hb
    .rw[hbe];exact z
   rw[q]at q';cases q';obtain⟨v,hv⟩:=heo;exact⟨v,by rw[hbe];exact hv⟩
  .refine(ok b u q).stay (fun c v hc r=>k c v ?_ r) (fun c r=>by rw[cM (nown c b r)];exact r) fun c xs r=>by rw[cM (ntup c xs r)];exact r
   rcases hc with rfl|hc
   .exact hbe
   .rintro rfl
    rcases he with z|z
    .exact nown c b hc z
    .rw[hc]at z;cases z;exact hb rfl
end
structure Un(fs ex:List Addr)(H H':Hp)(h h':Heap):Prop where
 keep:∀b o,h.get? b=some o->H b=none->b∉fs->b∉ex->h'.get? b=some o
 slot:∀b o,h.get? b=some o->H b=none->b∈fs->b∉ex->∃sl,h'.get? b=some { o with slots:=sl }
 free:∀b o,h.get? b=some o->H b=none->b∉ex->H' b=none
 there:∀b o,h.get? b=some o->b∉ex->∃o',h'.get? b=some o'
 tups:∀b xs,H b=some (.tup xs)->H' b=some (.tup xs)
 frzs:∀b o u,H b=some (.frz o u)->H' b=some (.frz o u)
 tbls:∀b ps,H b=some (.tbl ps)->∃more,H' b=some (.tbl (ps++more))
section
variable{fs fs' ex ex':List Addr}{H H1 H2:Hp}{h h1 h2 h':Heap}{a x e:Addr}{o:HO}
theorem Un.any(u:Un fs ex H H1 h h1){b:Addr}{ob:Obj}(q:h.get? b=some ob)(n:H b=none)(hx:b∉ex):∃sl,h1.get? b=some { ob with slots:=sl }:=by
 by_cases hb:b∈fs
 .exact u.slot b ob q n hb hx
 .exact⟨ob.slots,u.keep b ob q n hb hx⟩
theorem Un.trans(a:Un fs ex H H1 h h1)(b:Un fs ex H1 H2 h1 h2):Un fs ex H H2 h h2 where
 keep:=fun c ob q n hc hx=>b.keep c ob (a.keep c ob q n hc hx) (a.free c ob q n hx) hc hx
 slot:=fun c ob q n hc hx=>by obtain⟨sl,e1⟩:=a.slot c ob q n hc hx;obtain⟨sl',e2⟩:=b.slot c _ e1 (a.free c ob q n hx) hc hx;exact⟨sl',e2⟩
 free:=fun c ob q n hx=>by obtain⟨o',e1⟩:=a.there c ob q hx;exact b.free c o' e1 (a.free c ob q n hx) hx
 there:=fun c ob q hx=>by obtain⟨o',e1⟩:=a.there c ob q hx;exact b.there c o' e1 hx
 tups:=fun c xs q=>b.tups c xs (a.tups c xs q)
 frzs:=fun c ob xs q=>b.frzs c ob xs (a.frzs c ob xs q)
 tbls:=fun c ps q=>by obtain⟨m1,e1⟩:=a.tbls c ps q;obtain⟨m2,e2⟩:=b.tbls c _ e1;exact⟨m1++m2,by rw[e2,VT]⟩
theorem Un.kept(k:∀b u,h.get? b=some u->h'.get? b=some u):Un fs ex H H h h':=⟨fun b ob q _ _ _=>k b ob q,fun b ob q _ _ _=>⟨ob.slots,k b ob q⟩,fun _ _ _ n _=>n,fun b ob q _=>⟨ob,k b ob q⟩,fun _ _ q=>q,fun _ _ _ q=>q,fun _ ps q=>⟨#[],by rw[q];simp⟩⟩
theorem Un.refl:Un fs ex H H h h:=Un.kept fun _ _ q=>q
theorem Un.laid(k:∀b u,h.get? b=some u->h'.get? b=some u)(hp:h.objs.size<=a)(hn:H a=none):Un fs ex H (upd H a o) h h' where
 keep:=fun b u q _ _ _=>k b u q
 slot:=fun b u q _ _ _=>⟨u.slots,k b u q⟩
 free:=fun b u q n _=>by rw[cM (O_ (G_ (s_ q) hp))];exact n
 there:=fun b u q _=>⟨u,k b u q⟩
 tups:=fun b xs q=>by rw[cM (mi q hn)];exact q
 frzs:=fun b u xs q=>by rw[cM (mi q hn)];exact q
 tbls:=fun b ps q=>⟨#[],by rw[cM (mi q hn),q];simp⟩
theorem Un.write(mu:rE (H x))(he:e=x\/H e=some (.own x))(k:∀b u,b≠e->h.get? b=some u->h'.get? b=some u)(heo:∃u,h'.get? e=some u):Un fs ex H (upd H x o) h h':=by
 have hx:∀b,H b=none->b≠x:=fun b n z=>by subst z;rw[n]at mu;exact mu
 have hb:∀b,H b=none->b≠e:=fun b n z=>by
  subst z;rcases he with r|r
  .exact hx b n r
  .rw[n]at r;cases r
 have hm:∀b u,H b=some u->¬ rE (some u)->b≠x:=fun b u q nm z=>by subst z;rw[q]at mu;exact nm mu
 refine⟨fun b u q n _ _=>k b u (hb b n) q,fun b u q n _ _=>⟨u.slots,k b u (hb b n) q⟩,fun b u q n _=>by rw[cM (hx b n)];exact n,fun b u q _=>?_,fun b xs q=>by rw[cM (hm b _ q fun z=>z)];exact q,fun b u xs q=>by rw[cM (hm b _ q fun z=>z)];exact q,fun b ps q=>⟨#[],by rw[cM (hm b _ q fun z=>z),q];simp⟩⟩;by_cases hbe:b=e
 .subst hbe;exact heo
 .exact⟨u,k b u hbe q⟩
theorem Un.mono(u:Un fs ex H H1 h h1)(hs:∀b∈fs,b∈fs')(hx:∀b∈ex,b∈ex'):Un fs' ex' H H1 h h1:=⟨fun b ob q n hb he=>u.keep b ob q n (fun z=>hb (hs b z)) fun z=>he (hx b z),fun _ _ q n _ he=>u.any q n fun z=>he (hx _ z),fun b ob q n he=>u.free b ob q n fun z=>he (hx b z),fun b ob q he=>u.there b ob q fun z=>he (hx b z),u.tups,u.frzs,u.tbls⟩
end
def trk(h:Heap)(H:Hp):List Addr:=(C_ h.objs.size).filter fun a=>(H a).isSome
def gR(h:Heap)(H:Hp):Heap:=W.hideAll h (trk h H)
theorem Nz(h:Heap)(H:Hp):(gR h H).objs.size=h.objs.size:=W.hideAll_size _ _
theorem Mh{h:Heap}{H:Hp}{b:Addr}{o:Obj}(e:h.get? b=some o)(n:H b=none):(gR h H).get? b=some o:=W.hideAll_get _ e fun hm=>by have q:(H b).isSome=true:=(t_.mp hm).2;rw[n]at q;simp at q
theorem K1{h:Heap}{H:Hp}{b:Addr}{o:Obj}(e:(gR h H).get? b=some o):h.get? b=some o/\H b=none:=by have e':h.get? b=some o:=W.of_hideAll (trk h H) e;refine⟨e',?_⟩;cases q:H b with
|none=>rfl
|some x=>have hm:b∈trk h H:=t_.mpr ⟨QJ.mpr (s_ e'),by simp[q]⟩;have z:(gR h H).get? b=none:=W.hideAll_none (trk h H) hm;rw[z]at e;cases e
def oP(g h:Heap)(L:Addr):List (Addr×Obj):=(C_ h.objs.size).filterMap fun a=>if a=L\/(g.get? a).isSome=true then none else(h.get? a).map fun o=>(a,o)
theorem As{g h:Heap}{L a:Addr}{o:Obj}(h1:a≠L)(h2:g.get? a=none)(h3:h.get? a=some o):(a,o)∈oP g h L:=Rq.mpr ⟨a,QJ.mpr (s_ h3),by simp[h1,h2,h3]⟩
theorem PY{g h:Heap}{L:Addr}{p:Addr×Obj}(hp:p∈oP g h L):p.1≠L/\g.get? p.1=none/\h.get? p.1=some p.2:=by
 obtain⟨b,_,e⟩:=Rq.mp hp;split at e
 .cases e
 .rename_i hn;cases q:h.get? b with
 |none=>rw[q]at e;simp at e
 |some u=>rw[q]at e;simp only[Ud,V6]at e;subst e;refine⟨fun z=>hn (.inl z),?_,q⟩;show g.get? b=none;cases r:g.get? b with
  |none=>rfl
  |some v=>exact(hn (.inr (by simp[r]))).elim
def rest(g h:Heap)(L d:Addr):List (Addr×Obj):=(oP g h L).filter fun p=>decide (p.1≠d)
theorem yL{g h:Heap}{L:Addr}:News g L h (oP g h L):=fun p hp=>let⟨a,b,c⟩:=PY hp;⟨c,a,b⟩
structure Mod(K:W.Frag)(mg:Str->Option a_)(base:Heap):Prop where
 kin:K.In base
 glob:base.Ns N_ mg
 blt:∃mb,base.Ns W6 mb/\∀x:Str,x≠"__name__"->mb x=SJ x
 nolimit:base.NoLimit
structure Cx where
 prog:A_
 w:M_
 K:W.Frag
 mg:Str->Option a_
 base:Heap
 A:K_
 N:List Str
 s₀:d_
 H₀:Hp
 env:Env
 outer:List Env
 stack:List Env
 ex:List Addr
 fn:Str->Bool
 calm:Bool
 pn:List (Addr×Obj)
 xe:a_->d_->Prop
def dw(l:List Env):List Addr:=l.filterMap (·.frame)
abbrev Cx.fs(X:Cx):List Addr:=dw X.outer
def jC(sc:Sz)(x:Str):Prop:=sc.names.lookup x=some .local\/sc.names.lookup x=some .cell\/sc.names.lookup x=some .free
def j0(sc:Sz)(x:Str):Prop:=sc.names.lookup x=some .local\/sc.names.lookup x=some .cell
theorem gm{sc:Sz}{x:Str}(h:(match sc.names.lookup x with|some .local=>true|some .cell=>true|some .free=>true|_=>false)=true):jC sc x:=by
 revert h;unfold jC;split<;>intro h
 .exact .inl (by assumption)
 .exact .inr (.inl (by assumption))
 .exact .inr (.inr (by assumption))
 .cases h
def BF(env:Env)(h:Heap)(m:Str->Option a_)(x:Str)(u:a_):Prop:=(env.kindOf x=some .local/\m x=some u)\/((env.kindOf x=some .cell\/env.kindOf x=some .free)/\∃c,env.cells.lookup x=some c/\h.IsCell c (some u))
structure Cx.Ok(X:Cx):Prop where
 mod:Mod X.K X.mg X.base
 kind:X.env.scope.kind=.function
 glob:X.env.globals=N_
 blt:X.env.builtins=W6
 above:X.s₀.heap.objs.size<=X.env.locals
 inj:∀x y c,X.env.cells.lookup x=some c->X.env.cells.lookup y=some c->x=y
 has:∀x,(X.env.kindOf x=some .cell\/X.env.kindOf x=some .free)->∃c,X.env.cells.lookup x=some c
 cab:∀x c,X.fn x=true->X.env.cells.lookup x=some c->X.s₀.heap.objs.size<=c
 hd:X.calm=true->X.A.handled=none
 frames:X.A.frames=some X.stack
 stk:X.stack=X.outer\/(X.stack=X.env::X.outer/\X.env.frame=some X.env.locals)
 exf:∀b∈X.ex,b≠X.env.locals/\∀x c,X.env.cells.lookup x=some c->c≠b
 bs:∀b o,X.base.get? b=some o->X.s₀.heap.get? b=some o/\X.H₀ b=none
 bsz:X.base.objs.size<=X.s₀.heap.objs.size
 noex:∀b o,X.base.get? b=some o->b∉X.ex
 exfs:∀b∈X.ex,b∉X.fs
 funs:X.s₀.heap.FunFrames X.base X.outer
 frf:∀b∈X.fs,X.H₀ b=none
structure Inv(X:Cx)(pz:List (Addr×Obj))(σ:List (Option V))(H:Hp)(s:d_):Prop where
 ok:X.Ok
 os:s.os=X.s₀.os
 bare:TC s.gens
 base:Un X.fs X.ex X.H₀ H X.s₀.heap s.heap
 loc:∃m,s.heap.Ns X.env.locals m/\∀(i:Nat)(x:Str)(v:V),X.N[i]? = some x->σ[i]? = some (some v)->jC X.env.scope x->∃u,aY v u/\BF X.env s.heap m x u
 cell:∀x c,X.env.cells.lookup x=some c->∃v,s.heap.IsCell c v
 free:H X.env.locals=none
 freeC:∀x c,X.env.cells.lookup x=some c->H c=none
 pin:∀p∈X.pn++pz,s.heap.get? p.1=some p.2/\H p.1=none/\p.1≠X.env.locals/\p.1∉X.fs/\∀v,p.2.data≠.cell v
 hok:dR X.prog X.w H s.heap
 len:σ.length=X.N.length
section
variable{X:Cx}{pz:List (Addr×Obj)}{σ:List (Option V)}{H H':Hp}{s:d_}{h':Heap}
theorem Cx.Ok.nofr(ok:X.Ok){b:Addr}{o:Obj}(e:X.base.get? b=some o):b∉X.fs:=fun hb=>by have:=(ok.funs.mem hb).1;rw[e]at this;cases this
theorem Inv.bs(I:Inv X pz σ H s):∀b o,X.base.get? b=some o->s.heap.get? b=some o/\H b=none:=fun b o e=>⟨I.base.keep b o (I.ok.bs b o e).1 (I.ok.bs b o e).2 (I.ok.nofr e) (I.ok.noex b o e),I.base.free b o (I.ok.bs b o e).1 (I.ok.bs b o e).2 (I.ok.noex b o e)⟩
theorem Inv.bk(I:Inv X pz σ H s):∀b o,X.base.get? b=some o->s.heap.get? b=some o:=fun b o e=>(I.bs b o e).1
theorem Inv.mod(I:Inv X pz σ H s):Mod X.K X.mg X.base:=I.ok.mod
theorem Inv.kIn(I:Inv X pz σ H s):X.K.In s.heap:=I.ok.mod.kin.keeps I.bk
theorem Inv.nolimit(I:Inv X pz σ H s):s.heap.NoLimit:=I.ok.mod.nolimit.keeps I.bk
theorem Inv.fr(I:Inv X pz σ H s):∃m,Fr X.base X.env.locals s.heap m:=let⟨m,hn,_⟩:=I.loc
 ⟨m,hn,I.bk,QI I.ok.bsz I.ok.above⟩
theorem Inv.lt(I:Inv X pz σ H s):X.env.locals<s.heap.objs.size:=let⟨_,hn,_⟩:=I.loc;hn.lt
theorem Inv.sz(I:Inv X pz σ H s):X.s₀.heap.objs.size<=s.heap.objs.size:=QI I.ok.above (Ul I.lt)
theorem Inv.nofs(I:Inv X pz σ H s){a:Addr}(h:s.heap.objs.size<=a):a∉X.fs:=fun hb=>by obtain⟨_,o,ho,_⟩:=I.ok.funs.mem hb;exact absurd (G_ (s_ ho) (QI I.sz h)) (Ri _)
theorem Inv.cne(I:Inv X pz σ H s):∀x c,X.env.cells.lookup x=some c->c≠X.env.locals:=fun x c e z=>by obtain⟨v,o,ho,hd⟩:=I.cell x c e;obtain⟨m,⟨o',es,ep,ho',hd',_⟩,_⟩:=I.loc;rw[z,ho']at ho;cases ho;rw[hd']at hd;cases hd
theorem Inv.funs(I:Inv X pz σ H s):s.heap.FunFrames X.base X.outer:=by
 have all:∀(l:List Env),(∀b∈dw l,b∈X.fs)->X.s₀.heap.FunFrames X.base l->s.heap.FunFrames X.base l:=by
  intro l
  induction l with
 |nil=>intro _ _;trivial
 |cons env r ih=>intro hs hl;obtain⟨hk,⟨L,o,hf,hn,ho,hd⟩,hr⟩:=hl;have hL:L∈X.fs:=hs L (by unfold dw;rw[Rb,hf];exact k_);obtain⟨sl,e⟩:=I.base.slot L o ho (I.ok.frf L hL) hL fun z=>I.ok.exfs L z hL;exact⟨hk,⟨L,_,hf,hn,e,hd⟩,ih (fun b hb=>hs b (by unfold dw;rw[Rb,hf];exact m_ _ hb)) hr⟩
 exact all X.outer (fun _ hb=>hb) I.ok.funs
theorem Inv.stack(I:Inv X pz σ H s):s.heap.FunFrames X.base X.stack:=by
 rcases I.ok.stk with e|⟨e,hf⟩
 .rw[e];exact I.funs
 .rw[e];obtain⟨m,hn,_⟩:=I.loc;refine .cons (by rw[I.ok.kind];decide) hf hn ?_ I.funs;exact Sg (QI I.ok.bsz I.ok.above)
theorem Inv.stkSub(I:Inv X pz σ H s):∀b∈dw X.stack,b∈X.env.locals::X.fs:=fun b hb=>by
 rcases I.ok.stk with e|⟨e,hf⟩
 .rw[e]at hb;exact m_ _ hb
 .rw[e]at hb;unfold dw at hb;rw[Rb,hf]at hb;exact hb
theorem Inv.stkFree(I:Inv X pz σ H s):∀b∈dw X.stack,H b=none:=fun b hb=>by
 rcases w_.mp (I.stkSub b hb)with e|hb
 .rw[e];exact I.free
 .obtain⟨_,o,ho,_⟩:=I.ok.funs.mem hb;exact I.base.free b o ho (I.ok.frf b hb) fun z=>I.ok.exfs b z hb
theorem Inv.step{g':Array W7}{t':Nat}{d':Drawn}{ch:List Addr}(I:Inv X pz σ H s)(hch:∀b∈ch,(b∈X.ex\/X.s₀.heap.objs.size<=b)/\b≠X.env.locals/\(∀x c,X.env.cells.lookup x=some c->c≠b)/\∀p∈X.pn++pz,p.1≠b)(keep:∀b o,b≠X.env.locals->b∉X.fs->b∉ch->s.heap.get? b=some o->H b=none->h'.get? b=some o)(slot:∀b o,b≠X.env.locals->b∈X.fs->b∉ch->s.heap.get? b=some o->H b=none->∃sl,h'.get? b=some { o with slots:=sl })(free:∀b o,b∉ch->s.heap.get? b=some o->H b=none->H' b=none)(there:∀b o,b∉ch->s.heap.get? b=some o->∃o',h'.get? b=some o')(tups:∀b xs,H b=some (.tup xs)->H' b=some (.tup xs))(frzs:∀b o u,H b=some (.frz o u)->H' b=some (.frz o u))(tbls:∀b ps,H b=some (.tbl ps)->∃more,H' b=some (.tbl (ps++more)))(ns:∀m,s.heap.Ns X.env.locals m->h'.Ns X.env.locals m)(hok:dR X.prog X.w H' h')(hg:TC g'):Inv X pz σ H' { s with heap:=h',gens:=g',drawn:=d',toks:=t' }:=by
 have neL:∀b o,X.s₀.heap.get? b=some o->b≠X.env.locals:=fun b o e=>O_ (G_ (s_ e) I.ok.above);have neC:∀b o,X.s₀.heap.get? b=some o->b∉X.ex->b∉ch:=fun b o e hx hb=>by
  rcases(hch b hb).1 with z|z
  .exact hx z
  .exact absurd (G_ (s_ e) z) (Ri _)
 have cellK:∀x c,X.env.cells.lookup x=some c->∀v,s.heap.IsCell c v->h'.IsCell c v:=fun x c e v ⟨o,ho,hd⟩=>by
  have nch:c∉ch:=fun z=>(hch c z).2.2.1 x c e rfl;by_cases hc:c∈X.fs
  .obtain⟨sl,q⟩:=slot c o (I.cne x c e) hc nch ho (I.freeC x c e);exact⟨_,q,hd⟩
  .exact⟨o,keep c o (I.cne x c e) hc nch ho (I.freeC x c e),hd⟩
 refine⟨I.ok,I.os,hg,⟨fun b o e n hb hx=>?_,fun b o e n hb hx=>?_,fun b o e n hx=>?_,fun b o e hx=>?_,fun b xs e=>tups b xs (I.base.tups b xs e),fun b o xs e=>frzs b o xs (I.base.frzs b o xs e),fun b ps e=>?_⟩,?_,fun x c e=>?_,?_,fun x c e=>?_,fun p hp=>?_,hok,I.len⟩
 .exact keep b o (neL b o e) hb (neC b o e hx) (I.base.keep b o e n hb hx) (I.base.free b o e n hx)
 .obtain⟨sl,e1⟩:=I.base.slot b o e n hb hx;obtain⟨sl',e2⟩:=slot b _ (neL b o e) hb (neC b o e hx) e1 (I.base.free b o e n hx);exact⟨sl',e2⟩
 .obtain⟨o',e1⟩:=I.base.there b o e hx;exact free b o' (neC b o e hx) e1 (I.base.free b o e n hx)
 .obtain⟨o',e1⟩:=I.base.there b o e hx;exact there b o' (neC b o e hx) e1
 .obtain⟨m1,e1⟩:=I.base.tbls b ps e;obtain⟨m2,e2⟩:=tbls b _ e1;exact⟨m1++m2,by rw[e2,VT]⟩
 .obtain⟨m,hn,hl⟩:=I.loc;refine⟨m,ns m hn,fun i x v e1 e2 e3=>?_⟩;obtain⟨u,r,l⟩:=hl i x v e1 e2 e3;refine⟨u,r,?_⟩;rcases l with l|⟨k,c,e,z⟩
  .exact .inl l
  .exact .inr ⟨k,c,e,cellK x c e _ z⟩
 .obtain⟨v,z⟩:=I.cell x c e;exact⟨v,cellK x c e v z⟩
 .obtain⟨m,⟨o,_,_,ho,_⟩,_⟩:=I.loc;exact free _ o (fun z=>(hch _ z).2.1 rfl) ho I.free
 .obtain⟨v,o,ho,hd⟩:=I.cell x c e;exact free c o (fun z=>(hch c z).2.2.1 x c e rfl) ho (I.freeC x c e)
 .obtain⟨e,n,ne,nf,d⟩:=I.pin p hp;have nch:p.1∉ch:=fun z=>(hch p.1 z).2.2.2 p hp rfl;exact⟨keep p.1 p.2 ne nf nch e n,free p.1 p.2 nch e n,ne,nf,d⟩
theorem Inv.un{t':Nat}(I:Inv X pz σ H s)(u:Un X.fs [] H H' s.heap h')(hok:dR X.prog X.w H' h'):Inv X pz σ H' { s with heap:=h',toks:=t' }:=by obtain⟨m,⟨o,es,ep,ho,r⟩,_⟩:=id I.loc;obtain⟨sl,hL⟩:=u.any ho I.free (by simp);exact I.step (g':=s.gens) (d':=s.drawn) (ch:=[]) (fun _ z=>nomatch z) (fun b o _ hb _ e n=>u.keep b o e n hb (by simp)) (fun b o _ hb _ e n=>u.slot b o e n hb (by simp)) (fun b o _ e n=>u.free b o e n (by simp)) (fun b o _ e=>u.there b o e (by simp)) u.tups u.frzs u.tbls (fun m' hm=>by obtain⟨o',es',ep',ho',r'⟩:=hm;rw[ho]at ho';cases ho';exact⟨_,es',ep',hL,r'⟩) hok I.bare
theorem Inv.call{g':Array W7}{t':Nat}{d':Drawn}{ch:List Addr}(I:Inv X pz σ H s)(u:Un (dw X.stack) ch H H' s.heap h')(hok:dR X.prog X.w H' h')(hg:TC g')(hch:∀b∈ch,(b∈X.ex\/X.s₀.heap.objs.size<=b)/\b≠X.env.locals/\(∀x c,X.env.cells.lookup x=some c->c≠b)/\∀p∈X.pn++pz,p.1≠b):Inv X pz σ H' { s with heap:=h',gens:=g',drawn:=d',toks:=t' }:=by obtain⟨m,⟨o,es,ep,ho,r⟩,_⟩:=id I.loc;obtain⟨sl,hL⟩:=u.any ho I.free fun z=>(hch _ z).2.1 rfl;exact I.step (ch:=ch) hch (fun b o hL hb hc e n=>u.keep b o e n (fun z=>(w_.mp (I.stkSub b z)).elim hL hb) hc) (fun b o _ _ hc e n=>u.any e n hc) (fun b o hc e n=>u.free b o e n hc) (fun b o hc e=>u.there b o e hc) u.tups u.frzs u.tbls (fun m' hm=>by obtain⟨o',es',ep',ho',r'⟩:=hm;rw[ho]at ho';cases ho';exact⟨_,es',ep',hL,r'⟩) hok hg
theorem Inv.turned{t':Nat}{it:Addr}(I:Inv X pz σ H s)(k:∀b o,b≠it->s.heap.get? b=some o->h'.get? b=some o)(hn:H it=none)(hL:it≠X.env.locals)(h1:it∈X.ex\/X.s₀.heap.objs.size<=it)(h2:∀x c,X.env.cells.lookup x=some c->c≠it)(h3:∀p∈X.pn++pz,p.1≠it):Inv X pz σ H { s with heap:=h',toks:=t' }:=by
 have nit:∀b u,H b=some u->b≠it:=fun b u e z=>by rw[z,hn]at e;cases e
 refine I.step (g':=s.gens) (d':=s.drawn) (ch:=[it]) (fun b hb=>?_) (fun b o _ _ hc e _=>k b o (fun z=>hc (by simp[z])) e) (fun b o _ _ hc e _=>⟨o.slots,k b o (fun z=>hc (by simp[z])) e⟩) (fun _ _ _ _ n=>n)
  (fun b o hc e=>⟨o,k b o (fun z=>hc (by simp[z])) e⟩) (fun _ _ e=>e) (fun _ _ _ e=>e) (fun b ps e=>⟨#[],by rw[e];simp⟩) (fun m hm=>?_) (fun b u e=>?_) I.bare
 .have e:b=it:=by simpa using hb
  subst e;exact⟨h1,hL,h2,h3⟩
 .obtain⟨o,es,ep,ho,r⟩:=hm;exact⟨o,es,ep,k _ o (Sn hL) ho,r⟩
 .refine(I.hok b u e).stay (fun c v hc q=>k c v ?_ q) (fun _ q=>q) fun _ _ q=>q;rcases hc with z|z
  .rw[z];exact nit b u e
  .exact nit c _ z
theorem Inv.tok(I:Inv X pz σ H s)(t:Nat):Inv X pz σ H { s with toks:=t }:=I.un (h':=s.heap) (t':=t) Un.refl I.hok
theorem Inv.kept{t':Nat}(I:Inv X pz σ H s)(k:∀b u,s.heap.get? b=some u->h'.get? b=some u):Inv X pz σ H { s with heap:=h',toks:=t' }:=I.un (Un.kept k) (I.hok.kept k)
theorem Inv.laid{a:Addr}{o:HO}{t':Nat}(I:Inv X pz σ H s)(k:∀b u,s.heap.get? b=some u->h'.get? b=some u)(hp:s.heap.objs.size<=a)(new:dz X.prog X.w (upd H a o) h' a o):Inv X pz σ (upd H a o) { s with heap:=h',toks:=t' }:=I.un (Un.laid k hp (I.hok.fresh hp)) (I.hok.laid k hp new)
theorem Inv.write{x e:Addr}{o:HO}{t':Nat}(I:Inv X pz σ H s)(mu:rE (H x))(he:e=x\/H e=some (.own x))(k:∀b u,b≠e->s.heap.get? b=some u->h'.get? b=some u)(heo:∃u,h'.get? e=some u)(new:dz X.prog X.w (upd H x o) h' x o):Inv X pz σ (upd H x o) { s with heap:=h',toks:=t' }:=I.un (Un.write mu he k heo) (I.hok.write mu he k heo new)
theorem Inv.pins_of{pins':List (Addr×Obj)}(I:Inv X pz σ H s)(h:∀p∈pins',s.heap.get? p.1=some p.2/\H p.1=none/\p.1≠X.env.locals/\p.1∉X.fs/\∀v,p.2.data≠.cell v):Inv X pins' σ H s:=⟨I.ok,I.os,I.bare,I.base,I.loc,I.cell,I.free,I.freeC,fun p hp=>(QW.mp hp).elim (fun z=>I.pin p (Rt _ z)) (h p),I.hok,I.len⟩
theorem Es{N:List Str}(hN:N.Nodup){i j:Nat}{x:Str}(a:N[i]? = some x)(b:N[j]? = some x):i=j:=by obtain⟨h1,e1⟩:=c_.mp a;obtain⟨h2,e2⟩:=c_.mp b;exact(Wn hN).mp (e1.trans e2.symm)
theorem E9{M:V7}{A:K_}{E:a_->d_->Prop}{i:Nat}{x:Str}{v:V}{u:a_}{Q:Unit->d_->Prop}(I:Inv X pz σ H s)(hN:X.N.Nodup)(hi:X.N[i]? = some x)(hx:j0 X.env.scope x)(r:aY v u)(h:∀s',Inv X pz (σ.set i (some v)) H s'->(∃a,Um a s.heap s'.heap/\(a=X.env.locals\/X.env.cells.lookup x=some a))->Q () s')(hf:X.fn x=true\/X.env.scope.names.lookup x=some .local:=by first|exact .inl rfl|exact .inr rfl|assumption):q_ M A (storeName X.env x u) Q E s:=by
 obtain⟨m,hn,hl⟩:=id I.loc;have hcls:(X.env.scope.kind==.class || (X.env.scope.kind==.module&&X.env.locals != X.env.globals))=false:=by rw[I.ok.kind];rfl
 have hiσ:i<σ.length:=by rw[I.len];exact(c_.mp hi).1
 have cne:=I.cne;have tracked:∀{a:Addr}{h':Heap},(∃o,s.heap.get? a=some o/\H a=none)->Um a s.heap h'->dR X.prog X.w H h':=fun{a h'} ha hs b ob e=>by
  obtain⟨_,_,hfree⟩:=ha;refine(I.hok b ob e).stay (fun c w' hc q=>(hs.2 c ?_).trans q) (fun _ q=>q) fun _ _ q=>q
  rintro rfl
  rcases hc with rfl|hc
  .rw[hfree]at e;cases e
  .rw[hfree]at hc;cases hc
 rcases hx with hk|hk
 .refine wpAny_storeName_local hk hn (fun h' hn' hs=>?_) hcls;obtain⟨oL,_,_,hoL,_⟩:=id hn;refine h _ ⟨I.ok,I.os,I.bare,⟨fun b o e n hb hx=>?_,fun b o e n hb hx=>?_,I.base.free,fun b o e hx=>?_,I.base.tups,I.base.frzs,I.base.tbls⟩,⟨_,hn',fun j y v' e1 e2 e3=>?_⟩,fun y c e=>?_,I.free,I.freeC,fun p hp=>?_,tracked ⟨oL,hoL,I.free⟩ hs,by simpa using I.len⟩ ⟨_,hs,.inl rfl⟩
  .exact(hs.2 b (O_ (G_ (s_ e) I.ok.above))).trans (I.base.keep b o e n hb hx)
  .obtain⟨sl,e1⟩:=I.base.slot b o e n hb hx;exact⟨sl,(hs.2 b (O_ (G_ (s_ e) I.ok.above))).trans e1⟩
  .obtain⟨o',e1⟩:=I.base.there b o e hx;exact⟨o',(hs.2 b (O_ (G_ (s_ e) I.ok.above))).trans e1⟩
  .by_cases hj:j=i
   .subst hj;rw[hi]at e1;cases e1;rw[n_ hiσ]at e2;cases e2;exact⟨u,r,.inl ⟨hk,by simp⟩⟩
   .rw[f_ (Sn hj)]at e2;obtain⟨u',r',q⟩:=hl j y v' e1 e2 e3;refine⟨u',r',?_⟩;rcases q with⟨k,e⟩|⟨k,c,e,z⟩
    .refine .inl ⟨k,?_⟩;have:y≠x:=fun e=>hj (Es hN e1 (e▸hi));simp[this,e]
    .exact .inr ⟨k,c,e,z.sameBut hs (cne y c e)⟩
  .obtain⟨w',z⟩:=I.cell y c e;exact⟨w',z.sameBut hs (cne y c e)⟩
  .obtain⟨e,n,ne,nf,d⟩:=I.pin p hp;exact⟨(hs.2 p.1 ne).trans e,n,ne,nf,d⟩
 .have hfn:X.fn x=true:=by
   rcases hf with z|z
   .exact z
   .rw[z]at hk;cases hk
  obtain⟨c,hc⟩:=I.ok.has x (.inl hk);obtain⟨w',z⟩:=I.cell x c hc;refine wpAny_storeName_cell I.ok.kind hk hc z (fun h' hc' hs=>?_);obtain⟨oc,hoc,hocd⟩:=id z;refine h { s with heap:=h' } ⟨I.ok,I.os,I.bare,⟨fun b o e n hb hx=>?_,fun b o e n hb hx=>?_,I.base.free,fun b o e hx=>?_,I.base.tups,I.base.frzs,I.base.tbls⟩,⟨m,hn.sameBut hs (Sn (cne x c hc)),fun j y v' e1 e2 e3=>?_⟩,fun y c' e=>?_,I.free,I.freeC,fun p hp=>?_,tracked ⟨oc,hoc,I.freeC x c hc⟩ hs,by simpa using I.len⟩ ⟨c,hs,.inr hc⟩
  .exact(hs.2 b (O_ (G_ (s_ e) (I.ok.cab x c hfn hc)))).trans (I.base.keep b o e n hb hx)
  .obtain⟨sl,e1⟩:=I.base.slot b o e n hb hx;exact⟨sl,(hs.2 b (O_ (G_ (s_ e) (I.ok.cab x c hfn hc)))).trans e1⟩
  .obtain⟨o',e1⟩:=I.base.there b o e hx;exact⟨o',(hs.2 b (O_ (G_ (s_ e) (I.ok.cab x c hfn hc)))).trans e1⟩
  .by_cases hj:j=i
   .subst hj;rw[hi]at e1;cases e1;rw[n_ hiσ]at e2;cases e2;exact⟨u,r,.inr ⟨.inl hk,c,hc,hc'⟩⟩
   .rw[f_ (Sn hj)]at e2;obtain⟨u',r',q⟩:=hl j y v' e1 e2 e3;refine⟨u',r',?_⟩;rcases q with q|⟨k,c',e,z'⟩
    .exact .inl q
    .refine .inr ⟨k,c',e,z'.sameBut hs ?_⟩
     rintro rfl
     exact hj (Es hN e1 (I.ok.inj _ _ _ e hc▸hi))
  .by_cases hcc:c'=c
   .subst hcc;exact⟨_,hc'⟩
   .obtain⟨w2,z2⟩:=I.cell y c' e;exact⟨w2,z2.sameBut hs hcc⟩
  .obtain⟨e,n,ne,nf,d⟩:=I.pin p hp;refine⟨(hs.2 p.1 ?_).trans e,n,ne,nf,d⟩;intro q;rw[q,hoc]at e;have q':oc=p.2:=z_ e;exact d w' (by rw[<-q'];exact hocd)
theorem sX{M:V7}{A:K_}{E:a_->d_->Prop}{i:Nat}{x:Str}{v:V}{u:a_}{Q:Unit->d_->Prop}(I:Inv X pz σ H s)(hN:X.N.Nodup)(hi:X.N[i]? = some x)(hx:j0 X.env.scope x)(r:aY v u)(h:∀s',Inv X pz (σ.set i (some v)) H s'->Q () s')(hf:X.fn x=true\/X.env.scope.names.lookup x=some .local:=by first|exact .inl rfl|exact .inr rfl|assumption):q_ M A (storeName X.env x u) Q E s:=E9 I hN hi hx r (fun s' I' _=>h s' I') hf
theorem Inv.call'{s':d_}{ch:List Addr}(I:Inv X pz σ H s)(ho:s'.os=s.os)(u:Un (dw X.stack) ch H H' s.heap s'.heap)(hok:dR X.prog X.w H' s'.heap)(hg:TC s'.gens)(hch:∀b∈ch,(b∈X.ex\/X.s₀.heap.objs.size<=b)/\b≠X.env.locals/\(∀x c,X.env.cells.lookup x=some c->c≠b)/\∀p∈X.pn++pz,p.1≠b):Inv X pz σ H' s':=by obtain⟨h',g',d',t',o'⟩:=s';have e:o'=s.os:=ho;subst e;exact I.call (g':=g') (t':=t') (d':=d') u hok hg hch
end
abbrev XK:=a_->Option Addr->Hp->Prop
abbrev St:=List (Option V)
abbrev VK:=V->Hp->Prop
abbrev TE:=St->Hp->VK->Prop
abbrev TT:=St->Hp->(Bool->Hp->Prop)->Prop
abbrev TA:=St->Hp->(List V->Hp->Prop)->Prop
structure Ends where
 nx:St->Hp->Prop
 rt:VK
 bk:St->Hp->Prop:=fun _ _=>False
 ct:St->Hp->Prop:=fun _ _=>False
abbrev TS:=Ends->St->Hp->Prop
def EP(X:Cx)(pz:List (Addr×Obj))(σ:St)(Q:VK)(u:a_)(s':d_):Prop:=∃v H',Inv X pz σ H' s'/\aY v u/\Q v H'
def TP(X:Cx)(pz:List (Addr×Obj))(σ:St)(Q:Bool->Hp->Prop)(b:Bool)(s':d_):Prop:=∃H',Inv X pz σ H' s'/\Q b H'
def AP(X:Cx)(pz:List (Addr×Obj))(σ:St)(Q:List V->Hp->Prop)(us:List a_)(s':d_):Prop:=∃vs H',Inv X pz σ H' s'/\aU vs us/\Q vs H'
def SP(X:Cx)(pz:List (Addr×Obj))(D:Ends)(f:Flow)(s':d_):Prop:=match f with
|.next=>∃σ' H',Inv X pz σ' H' s'/\D.nx σ' H'
|.brk=>∃σ' H',Inv X pz σ' H' s'/\D.bk σ' H'
|.cont=>∃σ' H',Inv X pz σ' H' s'/\D.ct σ' H'
|.ret u=>∃v σ' H',Inv X pz σ' H' s'/\aY v u/\D.rt v H'
def PE(X:Cx)(e:Expr)(t:TE):Prop:=∀(pz:List (Addr×Obj))(s:d_)(σ:St)(H:Hp)(Q:VK),Inv X pz σ H s->t σ H Q->q_ (D_ X.prog X.w) X.A (eval e X.env) (EP X pz σ Q) X.xe s
def PT(X:Cx)(e:Expr)(t:TT):Prop:=∀(pz:List (Addr×Obj))(s:d_)(σ:St)(H:Hp)(Q:Bool->Hp->Prop),Inv X pz σ H s->t σ H Q->q_ (D_ X.prog X.w) X.A (isTrue e X.env (eval e X.env)) (TP X pz σ Q) X.xe s
def PW(X:Cx)(e:Expr)(t:TT):Prop:=∀(whole:Sem a_)(pz:List (Addr×Obj))(s:d_)(σ:St)(H:Hp)(Q:Bool->Hp->Prop),Inv X pz σ H s->t σ H Q->q_ (D_ X.prog X.w) X.A (isTrue e X.env whole) (TP X pz σ Q) X.xe s
theorem PW.pt{X:Cx}{e:Expr}{t:TT}(h:PW X e t):PT X e t:=h _
def PA(X:Cx)(es:List Expr)(t:TA):Prop:=∀(pos:Pos)(pz:List (Addr×Obj))(s:d_)(σ:St)(H:Hp)(Q:List V->Hp->Prop),Inv X pz σ H s->t σ H Q->q_ (D_ X.prog X.w) X.A (spliced (backTo pos (h_ es X.env))) (AP X pz σ Q) X.xe s
def PS(X:Cx)(st:Stmt)(t:TS):Prop:=∀(pz:List (Addr×Obj))(s:d_)(σ:St)(H:Hp)(D:Ends),Inv X pz σ H s->t D σ H->q_ (D_ X.prog X.w) X.A (exec st X.env) (SP X pz D) X.xe s
def eY(X:Cx)(st:List Stmt)(t:TS):Prop:=∀(pz:List (Addr×Obj))(s:d_)(σ:St)(H:Hp)(D:Ends),Inv X pz σ H s->t D σ H->q_ (D_ X.prog X.w) X.A (execs st X.env) (SP X pz D) X.xe s
theorem bU{α:Type}{t:Sem α}{Q Q':α->d_->Prop}{M:V7}{A:K_}{E:a_->d_->Prop}{s:d_}(h:q_ M A t Q E s)(hQ:∀a s,Q a s->Q' a s):q_ M A t Q' E s:=QP h hQ fun _ _ x=>x
section
variable{X:Cx}
def li(i:Nat):TE:=fun σ H Q=>∃v,σ[i]? = some (some v)/\Q v H
def tC(v:V):TE:=fun _ H Q=>Q v H
theorem kS{i:Nat}{x:Str}{pos:Pos}(hN:X.N[i]? = some x)(hv:jC X.env.scope x)(hd:(x==("__debug__" : Str))=false:=by decide)(hcd:(x==("__classdict__" : Str))=false:=by decide):PE X (.Name x pos) (li i):=by
 intro pz s σ H Q I h;obtain⟨v,e,h⟩:=h;obtain⟨m,hn,hl⟩:=I.loc;obtain⟨u,r,l⟩:=hl i x v hN e hv;have fin:EP X pz σ Q u s:=⟨v,H,I,r,h⟩
 rcases l with⟨hk,hm⟩|⟨hk,c,hc,hcell⟩
 .exact W8 (wpAny_loadName_local I.ok.kind hk hn hm fin) hd
 .rcases hk with hk|hk
  .exact W8 (wpAny_loadName_cell I.ok.kind hk hc hcell fin) hd
  .exact W8 (wpAny_loadName_free I.ok.kind hk hc hcell fin hcd) hd
theorem Jo{i j pos}:PE X (.Constant (.int i) j pos) (tC (.int i)):=fun _ _ _ H _ I h=>wpAny_Constant_int ⟨.int i,H,I.tok _,⟨_,rfl⟩,h⟩
theorem GR{b j pos}:PE X (.Constant (.bool b) j pos) (tC (.bl b)):=fun _ _ _ H _ I h=>Constant_bool ⟨.bl b,H,I,rfl,h⟩
theorem Jq{j pos}:PE X (.Constant .none j pos) (tC .non):=fun _ _ _ H _ I h=>Constant_none ⟨.non,H,I,rfl,h⟩
theorem CN{x j pos}:PE X (.Constant (.str x) j pos) (tC (.str x)):=fun _ _ _ H _ I h=>Calls.Constant_str ⟨.str x,H,I.tok _,⟨_,rfl⟩,h⟩
def Gl(X:Cx)(x:Str):Prop:=X.env.kindOf x=some .globalImplicit
theorem l7{E:a_->d_->Prop}{pz:List (Addr×Obj)}{s:d_}{σ:St}{H:Hp}{x:Str}{u:a_}{pos:Pos}{Q:a_->d_->Prop}(I:Inv X pz σ H s)(hg:Gl X x)(hm:X.mg x=some u)(h:Q u s)(hd:(x==("__debug__" : Str))=false:=by decide):q_ (D_ X.prog X.w) X.A (eval (.Name x pos) X.env) Q E s:=Uu I.ok.kind hg (Calls.loadGlobal_global (by rw[I.ok.glob];exact I.mod.glob.keeps I.bk) hm h) hd
theorem mO{E:a_->d_->Prop}{pz:List (Addr×Obj)}{s:d_}{σ:St}{H:Hp}{x:Str}{u:a_}{pos:Pos}{Q:a_->d_->Prop}(I:Inv X pz σ H s)(hg:Gl X x)(hm:X.mg x=none)(hv:SJ x=some u)(h:Q u s)(hn:x≠"__name__" := by decide)(hd:(x==("__debug__" : Str))=false:=by decide):q_ (D_ X.prog X.w) X.A (eval (.Name x pos) X.env) Q E s:=by obtain⟨mb,h1,h2⟩:=I.mod.blt;exact Uu I.ok.kind hg (Calls.loadGlobal_builtin (by rw[I.ok.glob];exact I.mod.glob.keeps I.bk) hm (by rw[I.ok.blt];exact h1.keeps I.bk) ((h2 x hn).trans hv) h) hd
theorem Ks{x:Str}{v:V}{u:a_}{pos:Pos}(hg:Gl X x)(hm:X.mg x=some u)(r:aY v u)(hd:(x==("__debug__" : Str))=false:=by decide):PE X (.Name x pos) (tC v):=fun _ _ _ H _ I h=>l7 I hg hm ⟨v,H,I,r,h⟩ hd
theorem DV{x:Str}{v:V}{u:a_}{pos:Pos}(hg:Gl X x)(hm:X.mg x=none)(hv:SJ x=some u)(r:aY v u)(hn:x≠"__name__" := by decide)(hd:(x==("__debug__" : Str))=false:=by decide):PE X (.Name x pos) (tC v):=fun _ _ _ H _ I h=>mO I hg hm hv ⟨v,H,I,r,h⟩ hn hd
variable{a b:Expr}{ta tb:TE}{pos:Pos}
variable{tA tB':TT}{rest:List Expr}
def Bi(t u:TT):TT:=fun σ H Q=>t σ H fun c H1=>if c=true then u σ H1 Q else Q false H1
def Qq(t u:TT):TT:=fun σ H Q=>t σ H fun c H1=>if c=true then Q true H1 else u σ H1 Q
def Bb(t:TT):TT:=fun σ H Q=>t σ H fun c H1=>Q (! c) H1
theorem KJ(ha:PT X a tA):PW X (.BoolOp .And [a] pos) tA:=by intro wh pz s σ H Q I h;refine isTrue_and (bU (ha pz s σ H Q I h) fun c s1 e=>?_);cases c with
|true=>exact isTrue_and_nil e
|false=>exact e
theorem IT(ha:PT X a tA):PW X (.BoolOp .Or [a] pos) tA:=by intro wh pz s σ H Q I h;refine isTrue_or (bU (ha pz s σ H Q I h) fun c s1 e=>?_);cases c with
|false=>exact isTrue_or_nil e
|true=>exact e
theorem IS(ha:PT X a tA)(hb:PW X (.BoolOp .And (b::rest) pos) tB'):PW X (.BoolOp .And (a::b::rest) pos) (Bi tA tB'):=by intro wh pz s σ H Q I h;refine isTrue_and (bU (ha pz s σ H _ I h) fun c s1 ⟨H1,I1,q1⟩=>?_);cases c with
|true=>exact hb wh pz s1 σ H1 Q I1 q1
|false=>exact⟨H1,I1,q1⟩
theorem GW(ha:PT X a tA)(hb:PW X (.BoolOp .Or (b::rest) pos) tB'):PW X (.BoolOp .Or (a::b::rest) pos) (Qq tA tB'):=by intro wh pz s σ H Q I h;refine isTrue_or (bU (ha pz s σ H _ I h) fun c s1 ⟨H1,I1,q1⟩=>?_);cases c with
|true=>exact⟨H1,I1,q1⟩
|false=>exact hb wh pz s1 σ H1 Q I1 q1
theorem IR(ha:PT X a tA):PT X (.UnaryOp .Not a pos) (Bb tA):=by intro pz s σ H Q I h;exact isTrue_not (ha pz s σ H (fun c H1=>Q (! c) H1) I h)
def Hf(ta tb:TE):TE:=fun σ H Q=>ta σ H fun x H1=>∃c,x=.bl c/\if c=true then tb σ H1 Q else Q (.bl false) H1
def Iz(ta:TE):TE:=fun σ H Q=>ta σ H fun x H1=>∃c,x=.bl c/\Q (.bl (! c)) H1
theorem Js{op}{t:TE}(h:PE X a t):PE X (.BoolOp op [a] pos) t:=fun pz s σ H Q I hw=>BoolOp_one (h pz s σ H Q I hw)
theorem Jl(ha:PE X a ta)(hb:PE X (.BoolOp .And (b::rest) pos) tb):PE X (.BoolOp .And (a::b::rest) pos) (Hf ta tb):=by intro pz s σ H Q I h;refine BoolOp_and (bU (ha pz s σ H _ I h) fun v s1 ⟨x,H1,I1,r1,q1⟩=>?_);obtain⟨c,rfl,q1⟩:=q1;cases r1;refine RQ ?_;cases c with
|true=>exact hb pz s1 σ H1 Q I1 q1
|false=>exact⟨.bl false,H1,I1,rfl,q1⟩
theorem Jr(ha:PE X a ta):PE X (.UnaryOp .Not a pos) (Iz ta):=by intro pz s σ H Q I h;refine UnaryOp_ (bU (ha pz s σ H _ I h) fun v s1 ⟨x,H1,I1,r1,q1⟩=>?_);obtain⟨c,rfl,q1⟩:=q1;cases r1;exact not_of (RQ ⟨.bl (! c),H1,I1,rfl,q1⟩)
def Qs(t:TT)(ta tb:TE):TE:=fun σ H Q=>t σ H fun c H1=>if c=true then ta σ H1 Q else tb σ H1 Q
theorem Nb{c:Expr}(hc:PT X c tA)(ha:PE X a ta)(hb:PE X b tb):PE X (.IfExp c a b pos) (Qs tA ta tb):=by intro pz s σ H Q I h;refine wpAny_IfExp (bU (hc pz s σ H _ I h) fun d s1 ⟨H1,I1,q1⟩=>?_);cases d with
|true=>exact ha pz s1 σ H1 Q I1 q1
|false=>exact hb pz s1 σ H1 Q I1 q1
end
def c7(K:W.Frag)(H:Hp)(a:Addr)(xs:List V):Prop:=Rd H a (.lst xs) \/∃(o:Obj)(its:Array a_)(n:Nat),K.lookup a=some o/\o.cls=.type "list"/\o.dict=none/\o.data=.seq its n/\its.size<=sizeLine/\aU xs its.toList
def dQ(K:W.Frag)(H:Hp)(a:Addr)(xs:List V):Prop:=Rd H a (.tup xs) \/∃(o:Obj)(its:Array a_)(n:Nat),K.lookup a=some o/\o.cls=.type "tuple"/\o.data=.seq its n/\its.size<=sizeLine/\aU xs its.toList
def BA:a_->Option V
|.none=>some .non
|.bool b=>some (.bl b)
|.int i _=>some (.int i)
|.str x _=>some (.str x)
|.bytes b _=>some (.byt b)
|.float b _=>some (.flt b)
|.ref a=>some (.ref a)
|.type n=>some (.ty n)
|_=>none
theorem aY.abs{x:V}{u:a_}(r:aY x u):BA u=some x:=by cases x with
|non=>cases r;rfl
|bl _=>cases r;rfl
|int _=>obtain⟨t,rfl⟩:=r;rfl
|str _=>obtain⟨t,rfl⟩:=r;rfl
|byt _=>obtain⟨t,rfl⟩:=r;rfl
|flt _=>obtain⟨t,rfl⟩:=r;rfl
|ref _=>cases r;rfl
|ty _=>cases r;rfl
theorem aY.inj{x y:V}{u:a_}(r:aY x u)(q:aY y u):x=y:=z_ (r.abs.symm.trans q.abs)
theorem aU.inj{xs ys:List V}{us:List a_}(h:aU xs us)(h':aU ys us):xs=ys:=by induction h generalizing ys with
|nil=>cases h';rfl
|cons r t ih=>cases h' with
 |cons r' t'=>rw[r.inj r',ih t']
section
variable{X:Cx}{pz:List (Addr×Obj)}{σ:St}{H:Hp}{s:d_}{a:Addr}{xs ys:List V}
theorem c7.of{K:W.Frag}(h:H a=some (.lst xs)):c7 K H a xs:=.inl (.inl h)
theorem Inv.list(I:Inv X pz σ H s)(h:c7 X.K H a xs):∃its:List a_,aU xs its/\PlainL s.heap a its.toArray/\xs.length<=sizeLine:=by
 rcases h with h|⟨o,its,n,hk,hc,hd,hs,hz,r⟩
 .obtain⟨z,its,n,r,e⟩:=h.ok I.hok;exact⟨its,r,⟨_,n,e,rfl,rfl,rfl⟩,z⟩
 .refine⟨its.toList,r,⟨o,n,I.kIn a o hk,hc,hd,by simpa using hs⟩,?_⟩;have e:=r.length;simp only[So]at e;omega
theorem Inv.tuple(I:Inv X pz σ H s)(h:dQ X.K H a xs):∃its:List a_,aU xs its/\WL s.heap a its.toArray/\xs.length<=sizeLine:=by
 rcases h with h|⟨o,its,n,hk,hc,hs,hz,r⟩
 .obtain⟨z,its,r,p,_⟩:=h.ok I.hok;exact⟨its,r,p,z⟩
 .refine⟨its.toList,r,⟨o,I.kIn a o hk,hc,n,by simpa using hs⟩,?_⟩;have e:=r.length;simp only[So]at e;omega
theorem Inv.list_inj(I:Inv X pz σ H s)(h:c7 X.K H a xs)(h':c7 X.K H a ys):xs=ys:=by
 obtain⟨its,r,⟨o,n,e,_,_,d⟩,_⟩:=I.list h;obtain⟨its',r',⟨o',n',e',_,_,d'⟩,_⟩:=I.list h';rw[e]at e';cases e';rw[d]at d';injection d' with d1 _
 have:its=its':=by simpa using congrArg X9 d1
 subst this;exact r.inj r'
theorem Inv.tuple_inj(I:Inv X pz σ H s)(h:dQ X.K H a xs)(h':dQ X.K H a ys):xs=ys:=by
 obtain⟨its,r,⟨o,e,_,n,d⟩,_⟩:=I.tuple h;obtain⟨its',r',⟨o',e',_,n',d'⟩,_⟩:=I.tuple h';rw[e]at e';cases e';rw[d]at d';injection d' with d1 _
 have:its=its':=by simpa using congrArg X9 d1
 subst this;exact r.inj r'
end
abbrev Cx.wish(X:Cx)(E:a_->d_->Prop):Cx:={ X with xe:=E }
abbrev Cx.nox(X:Cx):Cx:=X.wish fun _ _=>False
theorem Cx.Ok.wish{X:Cx}(ok:X.Ok)(E:a_->d_->Prop):(X.wish E).Ok:=⟨ok.mod,ok.kind,ok.glob,ok.blt,ok.above,ok.inj,ok.has,ok.cab,ok.hd,ok.frames,ok.stk,ok.exf,ok.bs,ok.bsz,ok.noex,ok.exfs,ok.funs,ok.frf⟩
theorem Cx.Ok.unwish{X:Cx}{E:a_->d_->Prop}(ok:(X.wish E).Ok):X.Ok:=⟨ok.mod,ok.kind,ok.glob,ok.blt,ok.above,ok.inj,ok.has,ok.cab,ok.hd,ok.frames,ok.stk,ok.exf,ok.bs,ok.bsz,ok.noex,ok.exfs,ok.funs,ok.frf⟩
section
variable{X:Cx}{pz:List (Addr×Obj)}{σ:St}{H:Hp}{s:d_}{E:a_->d_->Prop}
theorem Inv.wish(I:Inv X pz σ H s)(E:a_->d_->Prop):Inv (X.wish E) pz σ H s:=⟨I.ok.wish E,I.os,I.bare,I.base,I.loc,I.cell,I.free,I.freeC,I.pin,I.hok,I.len⟩
theorem Inv.unwish(I:Inv (X.wish E) pz σ H s):Inv X pz σ H s:=⟨I.ok.unwish,I.os,I.bare,I.base,I.loc,I.cell,I.free,I.freeC,I.pin,I.hok,I.len⟩
theorem SP.unwish{D:Ends}{f:Flow}{s':d_}(h:SP (X.wish E) pz D f s'):SP X pz D f s':=by cases f with
|next=>obtain⟨σ',H',I,q⟩:=h;exact⟨σ',H',I.unwish,q⟩
|brk=>obtain⟨σ',H',I,q⟩:=h;exact⟨σ',H',I.unwish,q⟩
|cont=>obtain⟨σ',H',I,q⟩:=h;exact⟨σ',H',I.unwish,q⟩
|ret u=>obtain⟨v,σ',H',I,r,q⟩:=h;exact⟨v,σ',H',I.unwish,r,q⟩
theorem eY.nox{st:List Stmt}{t:TS}(h:eY X.nox st t):eY X st t:=fun pz s σ H D I hw=>QP (h pz s σ H D (I.wish _) hw) (fun _ _ q=>q.unwish) fun _ _ z=>QF z
end
section
variable{X:Cx}{st:Stmt}{rest:List Stmt}{t u:TS}{e:Expr}{te:TE}{pos:Pos}
def Iy:TS:=fun D σ H=>D.nx σ H
def qQ(t u:TS):TS:=fun D σ H=>t { D with nx:=u D } σ H
theorem KF:eY X [] Iy:=fun _ _ σ H _ I h=>SL ⟨σ,H,I,h⟩
theorem Ew(h1:PS X st t)(h2:eY X rest u):eY X (st::rest) (qQ t u):=by intro pz s σ H D I h;refine Wo (bU (h1 pz s σ H { D with nx:=u D } I h) fun f s1 q=>?_);cases f with
|next=>obtain⟨σ',H',I',q⟩:=q;exact h2 pz s1 σ' H' D I' q
|ret v=>exact q
|brk=>exact q
|cont=>exact q
theorem KG(h1:PS X st t):eY X [st] t:=by intro pz s σ H D I h;refine Wo (bU (h1 pz s σ H D I h) fun f s1 q=>?_);cases f with
|next=>exact SL q
|ret v=>exact q
|brk=>exact q
|cont=>exact q
theorem Inv.quiet{pz:List (Addr×Obj)}{σ:St}{H:Hp}{s:d_}(I:Inv X pz σ H s):interactive X.env=false:=by simp[interactive,I.ok.kind]
def Cm(te:TE):TS:=fun D σ H=>te σ H fun _ H1=>D.nx σ H1
theorem yA(he:PE X e te)(hs:TY e none pos.line X.env=pure false:=by rfl):PS X (.Expr e pos) (Cm te):=by intro pz s σ H D I h;exact wpAny_Expr_any (bU (he pz s σ H _ I h) fun v s1 ⟨x,H1,I1,r1,q1⟩=>⟨σ,H1,I1,q1⟩) I.quiet hs
def Ba(te:TE):TS:=fun D σ H=>te σ H D.rt
theorem IQ(he:PE X e te):PS X (.Return (some e) pos) (Ba te):=by intro pz s σ H D I h;exact wpAny_Return_some (bU (he pz s σ H _ I h) fun v s1 ⟨x,H1,I1,r1,q1⟩=>⟨x,σ,H1,I1,r1,q1⟩)
def Bf(c:TT)(t u:TS):TS:=fun D σ H=>c σ H fun b H1=>if b=true then t D σ H1 else u D σ H1
theorem GV{c:Expr}{a b:List Stmt}{tc:TT}(hc:PT X c tc)(ha:eY X a t)(hb:eY X b u):PS X (.If c a b pos) (Bf tc t u):=by intro pz s σ H D I h;refine wpAny_If (bU (hc pz s σ H _ I h) fun d s1 ⟨H1,I1,q1⟩=>?_);cases d with
|true=>exact ha pz s1 σ H1 D I1 q1
|false=>exact hb pz s1 σ H1 D I1 q1
def CS:TS:=fun _ _ _=>False
theorem Nj:PS X st CS:=fun _ _ _ _ _ _ h=>h.elim
theorem N0{sts:List Stmt}:eY X sts CS:=fun _ _ _ _ _ _ h=>h.elim
end
abbrev TG:=V->St->Hp->(St->Hp->Prop)->Prop
abbrev ky:=List V->St->Hp->(St->Hp->Prop)->Prop
def PG(X:Cx)(target:Expr)(t:TG):Prop:=∀(pz:List (Addr×Obj))(s:d_)(σ:St)(H:Hp)(v:V)(u:a_)(Q:St->Hp->Prop),Inv X pz σ H s->aY v u->t v σ H Q ->q_ (D_ X.prog X.w) X.A (Uv target X.env u) (fun _ s'=>∃σ' H',Inv X pz σ' H' s'/\Q σ' H') X.xe s
def jY(X:Cx)(ts:List Expr)(t:ky):Prop:=∀(pz:List (Addr×Obj))(s:d_)(σ:St)(H:Hp)(vs:List V)(us:List a_)(Q:St->Hp->Prop),Inv X pz σ H s->aU vs us->t vs σ H Q ->q_ (D_ X.prog X.w) X.A (assignInOrder ((RJ ts X.env).map (·.2)) us) (fun _ s'=>∃σ' H',Inv X pz σ' H' s'/\Q σ' H') X.xe s
abbrev lG:=V->V->V->Hp->(Hp->Prop)->Prop
def ij(X:Cx)(t:lG):Prop:=∀(pz:List (Addr×Obj))(s:d_)(σ:St)(H:Hp)(o i v:V)(ov iv u:a_)(Q:Hp->Prop),Inv X pz σ H s->aY o ov->aY i iv->aY v u->t o i v H Q ->q_ (D_ X.prog X.w) X.A (X_ ov iv u) (fun _ s'=>∃H',Inv X pz σ H' s'/\Q H') X.xe s
section
variable{X:Cx}{pos:Pos}
def BX(i:Nat):TG:=fun v σ H Q=>Q (σ.set i (some v)) H
theorem Kv{i:Nat}{x:Str}(hN:X.N.Nodup)(hi:X.N[i]? = some x)(hx:j0 X.env.scope x)(hf:X.fn x=true\/X.env.scope.names.lookup x=some .local:=by first|exact .inl rfl|exact .inr rfl|assumption):PG X (.Name x pos) (BX i):=by intro pz s σ H v u Q I r h;exact V8 (sX I hN hi hx r (fun s' I'=>⟨_,H,I',h⟩) hf)
def Bu:ky:=fun vs σ H Q=>vs=[]/\Q σ H
def Hw(t:TG)(u:ky):ky:=fun vs σ H Q=>∃v r,vs=v::r/\t v σ H fun σ' H'=>u r σ' H' Q
theorem Kw:jY X [] Bu:=by intro pz s σ H vs us Q I r h;obtain⟨e,h⟩:=h;subst e;cases r;exact assignInOrder_nil ⟨σ,H,I,h⟩
theorem Nd{e:Expr}{es:List Expr}{t:TG}{u:ky}(h1:PG X e t)(h2:jY X es u)(hs:(RJ (e::es) X.env).map (·.2)=Uv e X.env::(RJ es X.env).map (·.2):=by rfl):jY X (e::es) (Hw t u):=by intro pz s σ H vs us Q I r h;obtain⟨v,vr,e1,h⟩:=h;subst e1;cases r with
|cons r rr=>rw[hs];refine assignInOrder_cons (bU (h1 pz s σ H _ _ _ I r h) fun _ s1 ⟨σ1,H1,I1,q1⟩=>?_);exact h2 pz s1 σ1 H1 _ _ Q I1 rr q1
def Bs(K:W.Frag)(n:Nat)(t:ky):TG:=fun v σ H Q=>∃a xs,v=.ref a/\dQ K H a xs/\xs.length=n/\t xs σ H Q
theorem IH{es:List Expr}{k:Nat}{t:ky}{n:Nat}(hc:X.calm=true)(h:jY X es t)(hn:(RJ es X.env).length=n:=by rfl)(hst:(RJ es X.env).findIdx? (·.1)=none:=by rfl):PG X (.Tuple es k pos) (Bs X.K n t):=by intro pz s σ H v u Q I r hw;obtain⟨a,xs,e1,hq,hl,hw⟩:=hw;subst e1;cases r;obtain⟨its,rv,ht,hz⟩:=I.tuple hq;refine assign_Tuple_tuple (I.ok.hd hc) ht (by simp[hn,<-hl,rv.length]) hst fun h' hx=>?_;have I1:Inv X pz σ H { s with heap:=h' }:=I.kept (t':=s.toks) fun b o e=>hx b o (O_ (s_ e)) e;exact h pz _ σ H xs _ Q I1 (by simpa using rv) hw
def Bt(to ti:TE)(t:lG):TG:=fun v σ H Q=>to σ H fun o H1=>ti σ H1 fun i H2=>t o i v H2 fun H3=>Q σ H3
theorem IG{o i:Expr}{to ti:TE}{t:lG}(ho:PE X o to)(hi:PE X i ti)(hs:ij X t)(ha:∀v,Uv (.Subscript o i pos) X.env v=(do
   let ov <-Uo [v] (eval o X.env);let iv <-Uo [v,ov] (eval i X.env)
   W4 pos
   Uo [v,ov,iv] (X_ ov iv v)
   release [v,ov,iv] []):=by intro _;rfl):PG X (.Subscript o i pos) (Bt to ti t):=by intro pz s σ H v u Q I r h;rw[ha];refine b_ (Ro (bU (ho pz s σ H _ I h) fun ov s1 ⟨x,H1,I1,r1,q1⟩=>?_));refine b_ (Ro (bU (hi pz s1 σ H1 _ I1 q1) fun iv s2 ⟨y,H2,I2,r2,q2⟩=>?_));refine b_ (Tj (b_ (Ro (bU (hs pz s2 σ H2 x y v ov iv u _ I2 r1 r2 r q2) fun _ s3 ⟨H3,I3,q3⟩=>?_))));exact wpAny_release ⟨σ,H3,I3,q3⟩
def qV(te:TE)(g:TG):TS:=fun D σ H=>te σ H fun x H1=>g x σ H1 D.nx
theorem IP{tg e:Expr}{te:TE}{g:TG}(he:PE X e te)(hg:PG X tg g)(hs:swapsWithSole [tg] e pos.line X.env=pure false:=by rfl)(hw:swappedStores [tg] e X.env=pure none:=by rfl)(h1:(RJ [tg] X.env).map (·.2)=[Uv tg X.env]:=by rfl):PS X (.Assign [tg] e pos) (qV te g):=by intro pz s σ H D I h;refine wpAny_Assign_stores (bU (he pz s σ H _ I h) fun v s1 ⟨x,H1,I1,r1,q1⟩=>?_) hs hw;rw[h1];exact bU (hg pz s1 σ H1 x v _ I1 r1 q1) fun _ s2 q=>q
theorem CP{i:Nat}{x:Str}{e:Expr}{te:TE}{pos':Pos}(hN:X.N.Nodup)(hi:X.N[i]? = some x)(hx:j0 X.env.scope x)(he:PE X e te)(hs:TY e (some (.Name x pos')) pos.line X.env=pure false:=by rfl)(hf:X.fn x=true\/X.env.scope.names.lookup x=some .local:=by first|exact .inl rfl|exact .inr rfl|assumption):PS X (.Assign [.Name x pos'] e pos) (qV te (BX i)):=by intro pz s σ H D I h;refine wpAny_Assign_Name (bU (he pz s σ H _ I h) fun v s1 ⟨y,H1,I1,r1,q1⟩=>?_) hs;exact sX I1 hN hi hx r1 (fun s2 I2=>⟨_,H1,I2,q1⟩) hf
end
section
variable{X:Cx}{pos:Pos}
def J6(c:TT)(tb:TS):TS:=fun D σ H=>∃W:Nat->St->Hp->Prop,(∃m,W m σ H)/\∀m σ H,W m σ H ->c σ H fun b H1=>if b=true then ∃N:St->Hp->Prop,(∀σ' H',N σ' H'->∃m',m'<m/\W m' σ' H')/\tb { D with nx:=N,ct:=N,bk:=D.nx } σ H1 else D.nx σ H1
theorem Nk{c:Expr}{body:List Stmt}{tc:TT}{tb:TS}(hp:UW (D_ X.prog X.w) X.A X.env X.xe)(hc:PT X c tc)(hb:eY X body tb):PS X (.While c body [] pos) (J6 tc tb):=by
 intro pz s σ H D I h;obtain⟨W,⟨m0,w0⟩,turn⟩:=h;refine wpAny_While (codeAny_whileLoop (fun n s'=>∃σ' H',Inv X pz σ' H' s'/\W n σ' H') ?_ m0 ⟨σ,H,I,w0⟩)
 rintro n s1 ⟨σ1,H1,I1,w1⟩
 refine Sf hp (bU (hc pz s1 σ1 H1 _ I1 (turn n σ1 H1 w1)) fun b s2 ⟨H2,I2,q2⟩=>?_);cases b with
|true=>obtain⟨N,hN,q2⟩:=q2;rw[if_pos rfl];refine Sf hp (bU (hb pz s2 σ1 H2 _ I2 q2) fun f s3 q3=>?_);cases f with
 |next=>obtain⟨σ3,H3,I3,n3⟩:=q3;obtain⟨m',hm,w3⟩:=hN σ3 H3 n3;exact⟨m',hm,σ3,H3,I3,w3⟩
 |cont=>obtain⟨σ3,H3,I3,n3⟩:=q3;obtain⟨m',hm,w3⟩:=hN σ3 H3 n3;exact⟨m',hm,σ3,H3,I3,w3⟩
 |brk=>exact q3
 |ret v=>exact q3
|false=>rw[if_neg i_];exact SL ⟨σ1,H2,I2,q2⟩
end
structure It where
 go:Nat->Hp->Prop
 yld:Nat->Hp->V->Hp->Prop
 stop:Nat->Hp->Prop
def eV(X:Cx)(pz:List (Addr×Obj))(H:Hp)(b:Addr):Prop:=H b=none/\b≠X.env.locals/\b∉X.fs/\(b∈X.ex\/X.s₀.heap.objs.size<=b)/\(∀x c,X.env.cells.lookup x=some c->c≠b)/\∀p∈X.pn++pz,p.1≠b
theorem Inv.fpOk{X:Cx}{pz:List (Addr×Obj)}{σ:St}{H H':Hp}{s:d_}{b:Addr}(I:Inv X pz σ H s)(hb:s.heap.objs.size<=b)(hn:H' b=none):eV X pz H' b:=by
 refine⟨hn,R1 (G_ I.lt hb),I.nofs hb,.inr (QI I.sz hb),fun x c e z=>?_,fun p hp z=>?_⟩
 .obtain⟨v,q⟩:=I.cell x c e;exact absurd (G_ q.lt (by rw[z];exact hb)) (Ri _)
 .exact absurd (G_ (s_ (I.pin p hp).1) (by rw[z];exact hb)) (Ri _)
structure Turn(P:A_)(w:M_)(K:W.Frag)(tg:Expr)(J:It)(fp:List Addr)(it:Addr)(tn:Nat->Heap->Prop):Prop where
 mem:it∈fp
 obj:∀i h,tn i h->∀b∈fp,∃o,h.get? b=some o/\∀v,o.data≠.cell v
 keep:∀i h h',tn i h->(∀b∈fp,∀o,h.get? b=some o->h'.get? b=some o)->tn i h'
 item:∀(X:Cx),X.prog=P->X.w=w->X.K=K->X.calm=true->∀(i:Nat)(pz:List (Addr×Obj))(s:d_)(σ:St)(H:Hp)(E:a_->d_->Prop),Inv X pz σ H s->(∀b∈fp,eV X pz H b)->tn i s.heap->J.go i H ->q_ (D_ P w) X.A (Wp (.ref it)) (fun r s1=>∃u,r=some u /\q_ (D_ P w) X.A (Ue tg (.ref it) u) (fun _ s2=>∃x H',Inv X pz σ H' s2/\aY x u/\J.yld i H x H'/\tn (i+1) s2.heap/\∀b∈fp,H' b=none) E s1) E s
 done:∀(X:Cx),X.prog=P->X.w=w->X.K=K->X.calm=true->∀(i:Nat)(pz:List (Addr×Obj))(s:d_)(σ:St)(H:Hp)(E:a_->d_->Prop),Inv X pz σ H s->(∀b∈fp,eV X pz H b)->tn i s.heap->J.stop i H ->q_ (D_ P w) X.A (Wp (.ref it)) (fun r s1=>r=none/\Inv X pz σ H s1) E s
 self:∀(A:K_)(i:Nat)(s:d_)(Q:a_->d_->Prop)(E:a_->d_->Prop),tn i s.heap->Q (.ref it) s->q_ (D_ P w) A (pyIter (.ref it)) Q E s
abbrev TI:=St->Hp->(It->Hp->Prop)->Prop
def GD(X:Cx)(pz:List (Addr×Obj))(σ:St)(tg:Expr)(R:It->Hp->Prop)(itv:a_)(s2:d_):Prop:=∃(it:Addr)(fp:List Addr)(tn:Nat->Heap->Prop)(J:It)(H':Hp),itv=.ref it/\Inv X pz σ H' s2/\Turn X.prog X.w X.K tg J fp it tn/\tn 0 s2.heap/\(∀b∈fp,eV X pz H' b)/\R J H'
def PI(X:Cx)(tg iter:Expr)(wi:TI):Prop:=∀(pz:List (Addr×Obj))(s:d_)(σ:St)(H:Hp)(R:It->Hp->Prop),Inv X pz σ H s->wi σ H R ->q_ (D_ X.prog X.w) X.A (eval iter X.env) (fun v s1=>q_ (D_ X.prog X.w) X.A (pyIter v) (GD X pz σ tg R) X.xe s1) X.xe s
theorem wF{M:V7}{A:K_}{E:a_->d_->Prop}{s:d_}{tg:Expr}{it:Addr}{u:a_}{o:Obj}{n:String}{vs:Array a_}{Q:Unit->d_->Prop}(ho:s.heap.get? it=some o)(hc:o.cls=.type n)(hd:o.data=.fields vs)(hn : ["enumerate","zip","dict_itemiterator","dict_reverseitemiterator","odict_iterator","itertools.zip_longest","itertools.pairwise"].contains n=false)(hQ:Q () s):q_ M A (Ue tg (.ref it) u) Q E s:=by
  unfold Ue;cases tg <;> first
    |exact j_ hQ
    |(cases u <;> first
        |exact j_ hQ
        | (refine b_ (W9 ho ?_)
           rw[hc,hd];show q_ M A (if (["enumerate","zip","dict_itemiterator","dict_reverseitemiterator","odict_iterator","itertools.zip_longest","itertools.pairwise"].contains n&&vs[0]? == some (TD _))=true then _ else _) Q E s;rw[if_neg (by intro h;rw[hn,W_]at h;cases h)];exact j_ hQ))
def rH(K:W.Frag)(a:Addr):It:=⟨fun i H=>∃xs x,c7 K H a xs/\xs[i]? = some x,fun i H x H'=>H'=H/\∀xs,c7 K H a xs->xs[i]? = some x,fun i H=>∃xs,c7 K H a xs/\xs.length<=i⟩
def BG(K:W.Frag)(a:Addr):It:=⟨fun i H=>∃xs x,dQ K H a xs/\xs[i]? = some x,fun i H x H'=>H'=H/\∀xs,dQ K H a xs->xs[i]? = some x,fun i H=>∃xs,dQ K H a xs/\xs.length<=i⟩
def rG(lo:Int)(n:Nat):It:=⟨fun i _=>i<n,fun i H x H'=>H'=H/\x=.int (lo+i),fun i _=>n<=i⟩
theorem O6{P:A_}{w:M_}{K:W.Frag}{tg:Expr}(a it:Addr):Turn P w K tg (rH K a) [it] it (fun i h=>h.IsListIter it a i) where
 mem:=by simp
 obj:=fun i h st b hb=>by
  have e:b=it:=by simpa using hb
  subst e;obtain⟨o,e,c,d⟩:=st;exact⟨o,e,fun v z=>by rw[d]at z;cases z⟩
 keep:=fun i h h' st k=>st.at fun o e=>k it (by simp) o e
 item:=by intro X hP hw hK hc i pz s σ H E I hf st hg;subst hP hw hK;obtain⟨xs,x,hq,hx⟩:=hg;obtain⟨its,rv,p,hz⟩:=I.list hq;obtain⟨u,hu,ru⟩:=rv.get hx;obtain⟨f0,f1,f2,f3,f4,f5⟩:=hf it (by simp);refine wpAny_pyNext_list_item st p.isList (x:=u) (by simpa using hu) fun h' st' sb=>?_;have I1:Inv X pz σ H { s with heap:=h' }:=I.turned (t':=s.toks) (fun b o hb e=>(sb.2 b hb).trans e) f0 f1 f3 f4 f5;obtain⟨o,e,c,d⟩:=id st';exact⟨u,rfl,wF (s:={ s with heap:=h' }) e c d (by decide) ⟨x,H,I1,ru,⟨rfl,fun ys hy=>by rw[I.list_inj hy hq];exact hx⟩,st',fun b hb=>(hf b hb).1⟩⟩
 done:=by intro X hP hw hK hc i pz s σ H E I hf st hg;subst hP hw hK;obtain⟨xs,hq,hx⟩:=hg;obtain⟨its,rv,p,hz⟩:=I.list hq;obtain⟨f0,f1,f2,f3,f4,f5⟩:=hf it (by simp);have hl:=rv.length;exact wpAny_pyNext_list_end (I.ok.hd hc) st p.isList (by simp;omega) fun h' eb=>⟨rfl,I.turned (t':=s.toks) (fun b o hb e=>eb b o hb e) f0 f1 f3 f4 f5⟩
 self:=fun _ _ _ _ _ st h=>wpAny_pyIter_listiter st h
theorem OL{P:A_}{w:M_}{K:W.Frag}{tg:Expr}(a it:Addr):Turn P w K tg (BG K a) [it] it (fun i h=>h.IsTupleIter it a i) where
 mem:=by simp
 obj:=fun i h st b hb=>by
  have e:b=it:=by simpa using hb
  subst e;obtain⟨o,e,c,d⟩:=st;exact⟨o,e,fun v z=>by rw[d]at z;cases z⟩
 keep:=fun i h h' st k=>st.at fun o e=>k it (by simp) o e
 item:=by intro X hP hw hK hc i pz s σ H E I hf st hg;subst hP hw hK;obtain⟨xs,x,hq,hx⟩:=hg;obtain⟨its,rv,p,hz⟩:=I.tuple hq;obtain⟨u,hu,ru⟩:=rv.get hx;obtain⟨f0,f1,f2,f3,f4,f5⟩:=hf it (by simp);refine wpAny_pyNext_tuple_item st (show s.heap.IsTuple a its.toArray from p) (x:=u) (by simpa using hu) fun h' st' sb=>?_;have I1:Inv X pz σ H { s with heap:=h' }:=I.turned (t':=s.toks) (fun b o hb e=>(sb.2 b hb).trans e) f0 f1 f3 f4 f5;obtain⟨o,e,c,d⟩:=id st';exact⟨u,rfl,wF (s:={ s with heap:=h' }) e c d (by decide) ⟨x,H,I1,ru,⟨rfl,fun ys hy=>by rw[I.tuple_inj hy hq];exact hx⟩,st',fun b hb=>(hf b hb).1⟩⟩
 done:=by intro X hP hw hK hc i pz s σ H E I hf st hg;subst hP hw hK;obtain⟨xs,hq,hx⟩:=hg;obtain⟨its,rv,p,hz⟩:=I.tuple hq;obtain⟨f0,f1,f2,f3,f4,f5⟩:=hf it (by simp);have hl:=rv.length;exact wpAny_pyNext_tuple_end (I.ok.hd hc) st (show s.heap.IsTuple a its.toArray from p) (by simp;omega) fun h' eb=>⟨rfl,I.turned (t':=s.toks) (fun b o hb e=>eb b o hb e) f0 f1 f3 f4 f5⟩
 self:=fun _ _ _ _ _ st h=>wpAny_pyIter_tupleiter st h
theorem OK{P:A_}{w:M_}{K:W.Frag}{tg:Expr}(it:Addr)(lo:Int)(n:Nat):Turn P w K tg (rG lo n) [it] it (fun i h=>IsRangeIter h it (lo+(i:Nat)*1) ((n:Int)-(i:Nat)) 1) where
 mem:=by simp
 obj:=fun i h st b hb=>by
  have e:b=it:=by simpa using hb
  subst e;exact⟨_,st,fun v z=>by have z':Data.fields _=Data.cell v:=z;cases z'⟩
 keep:=fun i h h' st k=>k it (by simp) _ st
 item:=by intro X hP hw hK hc i pz s σ H E I hf st hg;subst hP hw hK;obtain⟨f0,f1,f2,f3,f4,f5⟩:=hf it (by simp);have W:=Walks.range (prog:=X.prog) (w:=X.w) (I.ok.hd hc) it lo 1 n;refine W.item i s _ _ hg st fun v h' tk hv st' kk=>?_;obtain⟨t,rfl⟩:=hv;have I1:Inv X pz σ H { s with heap:=h',toks:=tk }:=I.turned (fun b o hb e=>kk b o (by simpa using hb) e) f0 f1 f3 f4 f5;refine⟨_,rfl,wF (s:={ s with heap:=h',toks:=tk }) (n := "range_iterator") st' rfl rfl (by decide) ⟨.int (lo+i),H,I1,⟨t,?_⟩,⟨rfl,rfl⟩,st',fun b hb=>(hf b hb).1⟩⟩;rw[Int.mul_one]
 done:=by intro X hP hw hK hc i pz s σ H E I hf st hg;subst hP hw hK;obtain⟨f0,f1,f2,f3,f4,f5⟩:=hf it (by simp);exact wpAny_pyNext_range_end (I.ok.hd hc) st (by have:n<=i:=hg;omega) fun h' eb=>⟨rfl,I.turned (t':=s.toks) (fun b o hb e=>eb b o hb e) f0 f1 f3 f4 f5⟩
 self:=fun _ _ _ _ _ st h=>wpAny_pyIter_rangeiter st h
section
variable{X:Cx}{tg:Expr}
theorem Ez{pz:List (Addr×Obj)}{σ:St}{H:Hp}{s:d_}{R:It->Hp->Prop}{E:a_->d_->Prop}{lo hi:Int}{t u v:Tok}{tk:Nat}(I:Inv X pz σ H s)(h1 : -(2^62)<=lo)(h2:lo<2^62)(h3 : -(2^62)<=hi)(h4:hi<2^62)(q:R (rG lo (hi-lo).toNat) H):q_ (D_ X.prog X.w) X.A (pyIter (.ref s.heap.objs.size)) (GD X pz σ tg R) E { s with heap:=s.heap.push { cls:=.type "range",data:=.fields #[.int lo t,.int hi u,.int 1 v] },toks:=tk }:=by
 refine wpAny_pyIter_range (IsRange.new ..) (small_one h1 h2 h3 h4) ?_;have I1:Inv X pz σ H { s with heap:=s.heap.push { cls:=.type "range",data:=.fields #[.int lo t,.int hi u,.int 1 v] },toks:=tk }:=I.kept fun b o e=>e_ _ e;refine⟨(s.heap.push { cls:=.type "range",data:=.fields #[.int lo t,.int hi u,.int 1 v] }).objs.size,[(s.heap.push { cls:=.type "range",data:=.fields #[.int lo t,.int hi u,.int 1 v] }).objs.size],_,_,H,rfl,I1.kept (t':=tk) fun b o e=>e_ _ e,OK _ lo (hi-lo).toNat,?_,fun b hb=>?_,q⟩
 .have e1:lo+((0:Nat):Int)*1=lo:=by simp
  have e2:(((hi-lo).toNat:Nat):Int)-((0:Nat):Int)=UX lo hi 1:=by rw[rangeSize_one];split <;> omega
  show IsRangeIter _ _ (lo+((0:Nat):Int)*1) ((((hi-lo).toNat:Nat):Int)-((0:Nat):Int)) 1;rw[e1,e2];exact x_ _ rfl
 .have e:b=(s.heap.push { cls:=.type "range",data:=.fields #[.int lo t,.int hi u,.int 1 v] }).objs.size:=by simpa using hb
  subst e;exact I1.fpOk (r_ _) (I1.hok.fresh (r_ _))
def Hx(ta:TA):TI:=fun σ H R=>ta σ H fun vs H1=>∃j:Int,vs=[.int j]/\-(2^62)<=j/\j<2^62/\R (rG 0 j.toNat) H1
def Hy(ta:TA):TI:=fun σ H R=>ta σ H fun vs H1=>∃i j:Int,vs=[.int i,.int j]/\(-(2^62)<=i/\i<2^62/\-(2^62)<=j/\j<2^62)/\R (rG i (j-i).toNat) H1
theorem NX{a:Expr}{ta:TA}{p pos:Pos}(hg:Gl X "range")(hm:X.mg "range" = none)(ha:PA X [a] ta)(hs:h_ [a] X.env=[(false,eval a X.env)]:=by rfl):PI X tg (.Call (.Name "range" p) [a] [] pos) (Hx ta):=by intro pz s σ H R I h;refine Call_ (mO I hg hm Xa (Ru (bU (ha pos pz s σ H _ I h) fun us s1 ⟨vs,H1,I1,r1,q1⟩=>?_) hs rfl));obtain⟨j,e,q1,q2,q⟩:=q1;subst e;cases r1 with
|cons r rr=>cases rr;obtain⟨t,rfl⟩:=r;exact call_range_1 (Ez I1 (by omega) (by omega) q1 q2 (by simpa using q))
theorem NY{a b:Expr}{ta:TA}{p pos:Pos}(hg:Gl X "range")(hm:X.mg "range" = none)(ha:PA X [a,b] ta)(hs:h_ [a,b] X.env=[(false,eval a X.env),(false,eval b X.env)]:=by rfl)(hs2:h_ [b] X.env=[(false,eval b X.env)]:=by rfl):PI X tg (.Call (.Name "range" p) [a,b] [] pos) (Hy ta):=by intro pz s σ H R I h;refine Call_ (mO I hg hm Xa (Ru (bU (ha pos pz s σ H _ I h) fun us s1 ⟨vs,H1,I1,r1,q1⟩=>?_) (by rw[hs,hs2]) (by rw[hs2];rfl)));obtain⟨i,j,e,⟨q1,q2,q3,q4⟩,q⟩:=q1;subst e;cases r1 with
|cons r rr=>cases rr with
 |cons r' rr=>cases rr;obtain⟨t,rfl⟩:=r;obtain⟨t',rfl⟩:=r';exact call_range_2 (Ez I1 q1 q2 q3 q4 q)
def qU(wi:TI)(g:TG)(tb:TS):TS:=fun D σ H=>wi σ H fun J H1=>∃W:Nat->Nat->St->Hp->Prop,(∃m,W 0 m σ H1)/\∀i m σ H,W i m σ H ->(J.stop i H/\D.nx σ H)\/(J.go i H/\∃N:St->Hp->Prop,(∀σ' H',N σ' H'->∃m',m'<m/\W (i+1) m' σ' H')/\∀x H',J.yld i H x H'->g x σ H' fun σ2 H2=>tb { D with nx:=N,ct:=N,bk:=D.nx } σ2 H2)
def ou(fp:List Addr)(h:Heap):List (Addr×Obj):=fp.filterMap fun b=>(h.get? b).map fun o=>(b,o)
theorem pb{fp:List Addr}{h:Heap}{b:Addr}{o:Obj}(hb:b∈fp)(e:h.get? b=some o):(b,o)∈ou fp h:=Rq.mpr ⟨b,hb,by rw[e];rfl⟩
theorem Of{fp:List Addr}{h:Heap}{p:Addr×Obj}(hp:p∈ou fp h):p.1∈fp/\h.get? p.1=some p.2:=by obtain⟨b,hb,e⟩:=Rq.mp hp;cases q:h.get? b with
|none=>rw[q]at e;cases e
|some o=>rw[q]at e;have e':(b,o)=p:=z_ e;subst e';exact⟨hb,q⟩
theorem Inv.pinned{pz:List (Addr×Obj)}{σ:St}{H:Hp}{s:d_}{fp:List Addr}(I:Inv X pz σ H s)(hf:∀b∈fp,eV X pz H b)(ho:∀b∈fp,∃o,s.heap.get? b=some o/\∀v,o.data≠.cell v):Inv X (pz++ou fp s.heap) σ H s:=I.pins_of fun p hp=>(QW.mp hp).elim (fun z=>I.pin p (H_ _ z)) fun z=>by obtain⟨hb,e⟩:=Of z;obtain⟨f0,f1,f2,_⟩:=hf p.1 hb;obtain⟨o,e',d⟩:=ho p.1 hb;rw[e]at e';cases e';exact⟨e,f0,f1,f2,d⟩
theorem Inv.unpinned{pz pl:List (Addr×Obj)}{σ:St}{H:Hp}{s:d_}(I:Inv X (pz++pl) σ H s):Inv X pz σ H s:=I.pins_of fun p hp=>I.pin p (H_ _ (Rt _ hp))
theorem wX{iter:Expr}{body:List Stmt}{wi:TI}{g:TG}{tb:TS}{pos:Pos}(hp:UW (D_ X.prog X.w) X.A X.env X.xe)(hc:X.calm=true)(hi:PI X tg iter wi)(hg:PG X tg g)(hb:eY X body tb)(hs:∀x,Rv iter X.env x=pure x:=by intro _;rfl):PS X (.For tg iter body [] pos) (qU wi g tb):=by
 intro pz s σ H D I h;refine wpAny_For (bU (hi pz s σ H _ I h) fun v s1 h1=>bU h1 fun itv s2 h2=>?_) hs;obtain⟨it,fp,tn,J,H2,e,I2,T,st2,f2,W,⟨m0,w0⟩,turn⟩:=h2;subst e;have stat:∀{H':Hp},(∀b∈fp,H' b=none)->∀b∈fp,eV X pz H' b:=fun hn b hb=>⟨hn b hb,(f2 b hb).2⟩
 refine VI (fun n s'=>∃i σ' H',Inv X pz σ' H' s'/\tn i s'.heap/\(∀b∈fp,H' b=none)/\W i n σ' H') ?_ m0 ⟨0,σ,H2,I2,st2,fun b hb=>(f2 b hb).1,w0⟩
 rintro n s3 ⟨i,σ3,H3,I3,st3,fr3,w3⟩
 rcases turn i n σ3 H3 w3 with⟨stop,qn⟩|⟨go,N,hN,step⟩
 .refine Sf hp (bU (T.done X rfl rfl rfl hc i pz s3 σ3 H3 X.xe I3 (stat fr3) st3 stop) fun r s4 ⟨hr,I4⟩=>?_);subst hr;exact SL ⟨σ3,H3,I4,qn⟩
 .refine Sf hp (bU (T.item X rfl rfl rfl hc i pz s3 σ3 H3 X.xe I3 (stat fr3) st3 go) fun r s4 ⟨u,hr,h4⟩=>?_);subst hr;refine Sf hp (bU h4 fun _ s5 ⟨x,H5,I5,r5,y5,st5,fr5⟩=>?_);have I5':=I5.pinned (stat fr5) (T.obj _ _ st5);refine Sf hp (bU (hg _ s5 σ3 H5 x u _ I5' r5 (step x H5 y5)) fun _ s6 ⟨σ6,H6,I6,q6⟩=>?_);refine Sf hp (bU (hb _ s6 σ6 H6 _ I6 q6) fun f s7 q7=>?_);have again:∀{σ7:St}{H7:Hp},Inv X (pz++ou fp s5.heap) σ7 H7 s7->N σ7 H7->∃m,m<n/\∃i σ' H',Inv X pz σ' H' s7/\tn i s7.heap/\(∀b∈fp,H' b=none)/\W i m σ' H':=fun{σ7 H7} I7 n7=>by obtain⟨m',hm,w7⟩:=hN σ7 H7 n7;refine⟨m',hm,i+1,σ7,H7,I7.unpinned,T.keep _ _ _ st5 fun b hb o e=>(I7.pin (b,o) (H_ _ (H_ _ (pb hb e)))).1,fun b hb=>?_,w7⟩;obtain⟨o,e,d⟩:=T.obj _ _ st5 b hb;exact(I7.pin (b,o) (H_ _ (H_ _ (pb hb e)))).2.1
  cases f with
 |next=>obtain⟨σ7,H7,I7,n7⟩:=q7;exact again I7 n7
 |cont=>obtain⟨σ7,H7,I7,n7⟩:=q7;exact again I7 n7
 |brk=>obtain⟨σ7,H7,I7,q7⟩:=q7;exact⟨σ7,H7,I7.unpinned,q7⟩
 |ret v=>obtain⟨x7,σ7,H7,I7,r7,q7⟩:=q7;exact⟨x7,σ7,H7,I7.unpinned,r7,q7⟩
end
abbrev R2:=V->V->Hp->VK->Prop
def cV(X:Cx)(f:a_->a_->Sem a_)(r:R2):Prop:=∀(pz:List (Addr×Obj))(s:d_)(σ:St)(H:Hp)(x y:V)(v u:a_)(Q:VK),Inv X pz σ H s->aY x v->aY y u->r x y H Q ->q_ (D_ X.prog X.w) X.A (f v u) (EP X pz σ Q) X.xe s
def BB(X:Cx)(f:a_->Sem a_)(r:V->Hp->VK->Prop):Prop:=∀(pz:List (Addr×Obj))(s:d_)(σ:St)(H:Hp)(x:V)(v:a_)(Q:VK),Inv X pz σ H s->aY x v->r x H Q ->q_ (D_ X.prog X.w) X.A (f v) (EP X pz σ Q) X.xe s
def gF(X:Cx)(f:a_)(r:List V->Hp->VK->Prop):Prop:=∀(pz:List (Addr×Obj))(s:d_)(σ:St)(H:Hp)(xs:List V)(us:List a_)(Q:VK),Inv X pz σ H s->aU xs us->r xs H Q ->q_ (D_ X.prog X.w) X.A (call f us) (EP X pz σ Q) X.xe s
def BC(X:Cx)(r:V->Hp->(Bool->Hp->Prop)->Prop):Prop:=∀(pz:List (Addr×Obj))(s:d_)(σ:St)(H:Hp)(x:V)(v:a_)(Q:Bool->Hp->Prop),Inv X pz σ H s->aY x v->r x H Q ->q_ (D_ X.prog X.w) X.A (truthy v) (TP X pz σ Q) X.xe s
def qR(r:R2)(ta tb:TE):TE:=fun σ H Q=>ta σ H fun x H1=>tb σ H1 fun y H2=>r x y H2 Q
def Qo(r:V->Hp->VK->Prop)(ta:TE):TE:=fun σ H Q=>ta σ H fun x H1=>r x H1 Q
def rI(C:Int->Int->Prop)(g:Int->Int->V):R2:=fun x y H Q=>∃i j,x=.int i/\y=.int j/\C i j/\Q (g i j) H
def kt(g:Int->Int->V):R2:=fun x y H Q=>∃i j,x=.int i/\y=.int j/\Q (g i j) H
def rU(g:Int->V):V->Hp->VK->Prop:=fun x H Q=>∃i,x=.int i/\Q (g i) H
section
variable{X:Cx}{a b c:Expr}{ta tb tc:TE}{pos:Pos}
theorem nS(ha:PE X a ta)(hb:PE X b tb){pz:List (Addr×Obj)}{s:d_}{σ:St}{H:Hp}{R:V->V->Hp->Prop}(I:Inv X pz σ H s)(h:ta σ H fun x H1=>tb σ H1 fun y H2=>R x y H2){Q:a_->d_->Prop}{f:a_->a_->Sem a_}(hf:∀v u s2 x y H2,Inv X pz σ H2 s2->aY x v->aY y u->R x y H2->q_ (D_ X.prog X.w) X.A (f v u) Q X.xe s2):q_ (D_ X.prog X.w) X.A (eval a X.env) (fun v s₁=>q_ (D_ X.prog X.w) X.A (eval b X.env) (fun u s₂=>q_ (D_ X.prog X.w) X.A (f v u) Q X.xe s₂) X.xe s₁) X.xe s:=by refine bU (ha pz s σ H _ I h) fun v s1 ⟨x,H1,I1,r1,q1⟩=>?_;refine bU (hb pz s1 σ H1 _ I1 q1) fun u s2 ⟨y,H2,I2,r2,q2⟩=>?_;exact hf v u s2 x y H2 I2 r1 r2 q2
theorem Cd{op:Operator}{r:R2}(ho:cV X (Ss op) r)(ha:PE X a ta)(hb:PE X b tb):PE X (.BinOp a op b pos) (qR r ta tb):=by intro pz s σ H Q I h;exact wpAny_BinOp (nS ha hb I h fun v u s2 x y H2 I2 rx ry q=>ho pz s2 σ H2 x y v u Q I2 rx ry q)
theorem GU{op:UnaryOp}{r:V->Hp->VK->Prop}(ho:BB X (unaryOp op) r)(ha:PE X a ta):PE X (.UnaryOp op a pos) (Qo r ta):=by intro pz s σ H Q I h;exact UnaryOp_ (bU (ha pz s σ H _ I h) fun v s1 ⟨x,H1,I1,r1,q1⟩=>ho pz s1 σ H1 x v Q I1 r1 q1)
theorem vP{f:a_->a_->Sem a_}{C:Int->Int->Prop}{g:Int->Int->Int}(rule:∀(i j:Int)(t u:Tok)(s:d_)(Q:a_->d_->Prop)(E:a_->d_->Prop),C i j->Q (.int (g i j) s.toks) { s with toks:=s.toks+1 }->q_ (D_ X.prog X.w) X.A (f (.int i t) (.int j u)) Q E s):cV X f (rI C fun i j=>.int (g i j)):=by intro pz s σ H x y v u Q I rx ry h;obtain⟨i,j,rfl,rfl,hc,q⟩:=h;obtain⟨t,rfl⟩:=rx;obtain⟨t',rfl⟩:=ry;exact rule i j t t' s _ _ hc ⟨.int (g i j),H,I.tok _,⟨_,rfl⟩,q⟩
theorem rm{f:a_->a_->Sem a_}{g:Int->Int->Int}(rule:∀(i j:Int)(t u:Tok)(s:d_)(Q:a_->d_->Prop)(E:a_->d_->Prop),Q (.int (g i j) s.toks) { s with toks:=s.toks+1 }->q_ (D_ X.prog X.w) X.A (f (.int i t) (.int j u)) Q E s):cV X f (kt fun i j=>.int (g i j)):=by intro pz s σ H x y v u Q I rx ry h;obtain⟨i,j,rfl,rfl,q⟩:=h;obtain⟨t,rfl⟩:=rx;obtain⟨t',rfl⟩:=ry;exact rule i j t t' s _ _ ⟨.int (g i j),H,I.tok _,⟨_,rfl⟩,q⟩
theorem nN{f:a_->a_->Sem a_}{g:Int->Int->Bool}(rule:∀(i j:Int)(t u:Tok)(s:d_)(Q:a_->d_->Prop)(E:a_->d_->Prop),Q (.bool (g i j)) s->q_ (D_ X.prog X.w) X.A (f (.int i t) (.int j u)) Q E s):cV X f (kt fun i j=>.bl (g i j)):=by intro pz s σ H x y v u Q I rx ry h;obtain⟨i,j,rfl,rfl,q⟩:=h;obtain⟨t,rfl⟩:=rx;obtain⟨t',rfl⟩:=ry;exact rule i j t t' s _ _ ⟨.bl (g i j),H,I,rfl,q⟩
def iT(i j:Int):Prop:=0<j/\j<1073741824
def jn(i j:Int):Prop:=0<=j/\j<=1000000/\i.natAbs<2^64
def iS(i j:Int):Prop:=(-(2^64)<i/\i<2^64)\/(-(2^64)<j/\j<2^64)
theorem iS.ok{i j:Int}(h:iS i j):IntMulOk i j:=by
 rcases h with⟨h1,h2⟩|⟨h1,h2⟩
 .exact .of_left (intBits_le_64 h1 h2)
 .exact .of_right (intBits_le_64 h1 h2)
theorem CL:cV X (Ss .Add) (kt fun i j=>.int (i+j)):=rm fun _ _ _ _ _ _ _ q=>add_int q
theorem Jk:cV X (Ss .Sub) (kt fun i j=>.int (i-j)):=rm fun _ _ _ _ _ _ _ q=>sub_int q
theorem Jh:cV X (Ss .Mult) (rI iS fun i j=>.int (i*j)):=vP fun _ _ _ _ _ _ _ hc q=>mul_int q hc.ok
theorem Km:cV X (Ss .FloorDiv) (rI iT fun i j=>.int (i/j)):=vP fun i j _ _ _ _ _ hc q=>by have h1:(0:Int)<j:=hc.1;have h2:j<1073741824:=hc.2;exact floordiv_int (by omega) (by rw[Int.fdiv_eq_ediv_of_nonneg i (by omega)];exact q) (.inl (PyProof.noPylong_small (by omega)))
theorem Jg:cV X (Ss .Mod) (rI (fun _ j=>0<j) fun i j=>.int (i%j)):=vP fun i j _ _ _ _ _ hc q=>by have h1:(0:Int)<j:=hc;exact mod_int' (by omega) (by rw[Int.fmod_eq_emod_of_nonneg i (by omega)];exact q)
theorem Ji:cV X (Ss .Pow) (rI jn fun i j=>.int (i^j.toNat)):=vP fun _ _ _ _ _ _ _ hc q=>pow_int_small hc.1 hc.2.1 hc.2.2 q
theorem unI{f:a_->Sem a_}{g:Int->Int}(rule:∀(i:Int)(t:Tok)(s:d_)(Q:a_->d_->Prop)(E:a_->d_->Prop),Q (.int (g i) s.toks) { s with toks:=s.toks+1 }->q_ (D_ X.prog X.w) X.A (f (.int i t)) Q E s):BB X f (rU fun i=>.int (g i)):=by intro pz s σ H x v Q I rx h;obtain⟨i,rfl,q⟩:=h;obtain⟨t,rfl⟩:=rx;exact rule i t s _ _ ⟨.int (g i),H,I.tok _,⟨_,rfl⟩,q⟩
theorem Ke:BB X (unaryOp .USub) (rU fun i=>.int (-i)):=unI fun _ _ _ _ _ q=>neg_int q
end
def lp:V->V->Bool
|.non,.non=>true|.non,.int _=>true|.int _,.non=>true|.non,.bl _=>true|.bl _,.non=>true|.non,.str _=>true|.str _,.non=>true
|.int _,.int _=>true|.bl _,.bl _=>true|.str _,.str _=>true|.byt _,.byt _=>true
|.int _,.str _=>true|.str _,.int _=>true|.bl _,.str _=>true|.str _,.bl _=>true
|_,_=>false
def Gy:R2:=fun x y H Q=>lp x y=true/\Q (.bl (decide (x=y))) H
def Gx:R2:=fun x y H Q=>lp x y=true/\Q (.bl (! decide (x=y))) H
theorem xM{i j:Int}:decide (V.int i=V.int j)=(i==j):=by rw[P_];simp
theorem wT{i j:Bool}:decide (V.bl i=V.bl j)=(i==j):=by rw[P_];simp
theorem xN{i j:Str}:decide (V.str i=V.str j)=(i==j):=by rw[P_];simp
theorem Dt{i j:Array UInt8}:decide (V.byt i=V.byt j)=(i.toList==j.toList):=by rw[P_];cases i;cases j;simp
section
variable{X:Cx}{a b c:Expr}{ta tb tc:TE}{pos:Pos}
theorem d4{pz:List (Addr×Obj)}{σ:St}{H:Hp}{s:d_}{Q:VK}{k k':Bool}(I:Inv X pz σ H s)(q:Q (.bl k) H)(e:k=k'):EP X pz σ Q (.bool k') s:=by subst e;exact⟨.bl k,H,I,rfl,q⟩
theorem B9:cV X (QG .Eq) Gy:=by intro pz s σ H x y v u Q I rx ry h;obtain⟨hs,q⟩:=h;cases x with
|non=>cases rx;cases y with
 |non=>cases ry;exact Xp (d4 I q (by simp))
 |bl j=>cases ry;exact Xq (d4 I q (by simp))
 |int j=>obtain⟨t',rfl⟩:=ry;exact XG (d4 I q (by simp))
 |str j=>obtain⟨t',rfl⟩:=ry;exact XH (d4 I q (by simp))
 |_=>exact absurd (show false=true from hs) i_
|bl i=>cases rx;cases y with
 |non=>cases ry;exact Xr (d4 I q (by simp))
 |bl j=>cases ry;exact eq_bool (d4 I q wT)
 |str j=>obtain⟨t',rfl⟩:=ry;exact Xs (d4 I q (by simp))
 |_=>exact absurd (show false=true from hs) i_
|int i=>obtain⟨t,rfl⟩:=rx;cases y with
 |non=>cases ry;exact XJ (d4 I q (by simp))
 |int j=>obtain⟨t',rfl⟩:=ry;exact eq_int (d4 I q xM)
 |str j=>obtain⟨t',rfl⟩:=ry;exact XM (d4 I q (by simp))
 |_=>exact absurd (show false=true from hs) i_
|str i=>obtain⟨t,rfl⟩:=rx;cases y with
 |non=>cases ry;exact XQ (d4 I q (by simp))
 |bl j=>cases ry;exact Xt (d4 I q (by simp))
 |int j=>obtain⟨t',rfl⟩:=ry;exact XS (d4 I q (by simp))
 |str j=>obtain⟨t',rfl⟩:=ry;exact eq_str (d4 I q xN)
 |_=>exact absurd (show false=true from hs) i_
|byt i=>obtain⟨t,rfl⟩:=rx;cases y with
 |byt j=>obtain⟨t',rfl⟩:=ry;exact W.eq_bytes (d4 I q Dt)
 |_=>exact absurd (show false=true from hs) i_
|_=>cases y <;> exact absurd (show false=true from hs) i_
theorem GQ:cV X (QG .NotEq) Gx:=by intro pz s σ H x y v u Q I rx ry h;obtain⟨hs,q⟩:=h;cases x with
|non=>cases rx;cases y with
 |non=>cases ry;exact Xu (d4 I q (by simp))
 |bl j=>cases ry;exact Xv (d4 I q (by simp))
 |int j=>obtain⟨t',rfl⟩:=ry;exact XU (d4 I q (by simp))
 |str j=>obtain⟨t',rfl⟩:=ry;exact XV (d4 I q (by simp))
 |_=>exact absurd (show false=true from hs) i_
|bl i=>cases rx;cases y with
 |non=>cases ry;exact Xw (d4 I q (by simp))
 |bl j=>cases ry;exact ne_bool (d4 I q (congrArg not wT))
 |str j=>obtain⟨t',rfl⟩:=ry;exact Xx (d4 I q (by simp))
 |_=>exact absurd (show false=true from hs) i_
|int i=>obtain⟨t,rfl⟩:=rx;cases y with
 |non=>cases ry;exact XY (d4 I q (by simp))
 |int j=>obtain⟨t',rfl⟩:=ry;exact ne_int (d4 I q (congrArg not xM))
 |str j=>obtain⟨t',rfl⟩:=ry;exact XZ (d4 I q (by simp))
 |_=>exact absurd (show false=true from hs) i_
|str i=>obtain⟨t,rfl⟩:=rx;cases y with
 |non=>cases ry;exact X0 (d4 I q (by simp))
 |bl j=>cases ry;exact Xy (d4 I q (by simp))
 |int j=>obtain⟨t',rfl⟩:=ry;exact X1 (d4 I q (by simp))
 |str j=>obtain⟨t',rfl⟩:=ry;exact ne_str (d4 I q (congrArg not xN))
 |_=>exact absurd (show false=true from hs) i_
|byt i=>obtain⟨t,rfl⟩:=rx;cases y with
 |byt j=>obtain⟨t',rfl⟩:=ry;exact W.ne_bytes (d4 I q (congrArg not Dt))
 |_=>exact absurd (show false=true from hs) i_
|_=>cases y <;> exact absurd (show false=true from hs) i_
theorem vW:cV X (QG .Lt) (kt fun i j=>.bl (decide (i<j))):=nN fun _ _ _ _ _ _ _ q=>lt_int q
theorem Ca:cV X (QG .LtE) (kt fun i j=>.bl (decide (i<=j))):=nN fun _ _ _ _ _ _ _ q=>le_int q
theorem GP:cV X (QG .Gt) (kt fun i j=>.bl (decide (j<i))):=nN fun _ _ _ _ _ _ _ q=>gt_int q
theorem Oj:cV X (QG .In) (fun x y H Q=>∃i j,x=.str i/\y=.str j/\Q (.bl (!(RS j i 0 j.length 1).isEmpty)) H):=by intro pz s σ H x y v u Q I rx ry h;obtain⟨i,j,rfl,rfl,q⟩:=h;obtain⟨t,rfl⟩:=rx;obtain⟨t',rfl⟩:=ry;exact in_str (d4 I q rfl)
theorem Jf:cV X (QG .Is) (fun x y H Q=>y=.non/\Q (.bl (decide (x=.non))) H):=by
 intro pz s σ H x y v u Q I rx ry h;obtain⟨rfl,q⟩:=h;cases ry;refine is_none_gen (d4 I q ?_);cases x <;> first
  |(cases rx;rfl)
  |(obtain⟨t,rfl⟩:=rx;rfl)
theorem Kp:cV X (QG .IsNot) (fun x y H Q=>y=.non/\Q (.bl (! decide (x=.non))) H):=by
 intro pz s σ H x y v u Q I rx ry h;obtain⟨rfl,q⟩:=h;cases ry;refine isnot_none_gen (d4 I q ?_);cases x <;> first
  |(cases rx;rfl)
  |(obtain⟨t,rfl⟩:=rx;rfl)
theorem cV.or{f:a_->a_->Sem a_}{r r':R2}(h:cV X f r)(h':cV X f r'):cV X f (fun x y H Q=>r x y H Q\/r' x y H Q):=by
 intro pz s σ H x y v u Q I rx ry q;rcases q with q|q
 .exact h pz s σ H x y v u Q I rx ry q
 .exact h' pz s σ H x y v u Q I rx ry q
theorem mP(b:Expr){op:WM}(h:op≠.In:=by decide)(h2:op≠.NotIn:=by decide):Si op b=false:=by
 have e1:(op==CmpOp.In)=false:=by cases op <;> first|rfl|exact absurd rfl h
 have e2:(op==CmpOp.NotIn)=false:=by cases op <;> first|rfl|exact absurd rfl h2
 cases b <;> simp[Si,e1,e2]
theorem Kr{op:WM}{r:R2}(ho:cV X (QG op) r)(ha:PE X a ta)(hb:PE X b tb)(hm:Si op b=false):PE X (.Compare a [op] [b] pos) (qR r ta tb):=by intro pz s σ H Q I h;exact wpAny_Compare1 (nS ha hb I h fun v u s2 x y H2 I2 rx ry q=>ho pz s2 σ H2 x y v u Q I2 rx ry q) hm
def Cn(t:TE):TT:=fun σ H Q=>t σ H fun x H'=>∃k,x=.bl k/\Q k H'
theorem KH{op:WM}{r:R2}(ho:cV X (QG op) r)(ha:PE X a ta)(hb:PE X b tb)(hm:Si op b=false):PT X (.Compare a [op] [b] pos) (Cn (qR r ta tb)):=by intro pz s σ H Q I h;refine wpAny_isTrue_Compare1 (bU (ha pz s σ H _ I h) fun v s1 ⟨x,H1,I1,r1,q1⟩=>bU (hb pz s1 σ H1 _ I1 q1) fun u s2 ⟨y,H2,I2,r2,q2⟩=>bU (ho pz s2 σ H2 x y v u _ I2 r1 r2 q2) fun c s3 ⟨z,H3,I3,r3,k,e,q3⟩=>?_) hm;subst e;cases r3;exact RQ ⟨H3,I3,q3⟩
def xC(r r':R2)(ta tb tc:TE):TE:=fun σ H Q=>ta σ H fun x H1=>tb σ H1 fun y H2=>r x y H2 fun z H3=>∃k,z=.bl k /\(if k=true then tc σ H3 fun w' H4=>r' y w' H4 Q else Q (.bl false) H3)
theorem M9{op op':WM}{r r':R2}(ho:cV X (QG op) r)(ho':cV X (QG op') r')(ha:PE X a ta)(hb:PE X b tb)(hc:PE X c tc)(hm:Wq [op,op'] [b,c]=false:=by with_unfolding_all rfl):PE X (.Compare a [op,op'] [b,c] pos) (xC r r' ta tb tc):=by intro pz s σ H Q I h;refine Compare_chain (bU (ha pz s σ H _ I h) fun v s1 ⟨x,H1,I1,r1,q1⟩=>chain_link (bU (hb pz s1 σ H1 _ I1 q1) fun u s2 ⟨y,H2,I2,r2,q2⟩=>bU (ho pz s2 σ H2 x y v u _ I2 r1 r2 q2) fun d s3 ⟨z,H3,I3,r3,k,e,q3⟩=>?_)) hm;subst e;cases r3;refine RQ ?_;cases k with
|false=>exact ite_ff ⟨.bl false,H3,I3,rfl,q3⟩
|true=>exact ite_tt (chain_last (bU (hc pz s3 σ H3 _ I3 q3) fun w' s4 ⟨z',H4,I4,r4,q4⟩=>ho' pz s4 σ H4 y z' u w' Q I4 r2 r4 q4))
theorem Nl{op op':WM}{r r':R2}(ho:cV X (QG op) r)(ho':cV X (QG op') r')(ha:PE X a ta)(hb:PE X b tb)(hc:PE X c tc)(hm:Wq [op,op'] [b,c]=false:=by with_unfolding_all rfl):PT X (.Compare a [op,op'] [b,c] pos) (Cn (xC r r' ta tb tc)):=by intro pz s σ H Q I h;refine isTrue_chain (bU (ha pz s σ H _ I h) fun v s1 ⟨x,H1,I1,r1,q1⟩=>test_link (bU (hb pz s1 σ H1 _ I1 q1) fun u s2 ⟨y,H2,I2,r2,q2⟩=>bU (ho pz s2 σ H2 x y v u _ I2 r1 r2 q2) fun d s3 ⟨z,H3,I3,r3,k,e,q3⟩=>?_)) hm;subst e;cases r3;refine RQ ?_;cases k with
|false=>obtain⟨k',e',q'⟩:=q3;cases e';exact ite_ff ⟨H3,I3,q'⟩
|true=>refine ite_tt (test_last (bU (hc pz s3 σ H3 _ I3 q3) fun w' s4 ⟨z',H4,I4,r4,q4⟩=>bU (ho' pz s4 σ H4 y z' u w' _ I4 r2 r4 q4) fun d' s5 ⟨z2,H5,I5,r5,k2,e2,q5⟩=>?_));subst e2;cases r5;exact RQ ⟨H5,I5,q5⟩
def nV(K:W.Frag)(x:V)(H:Hp)(k:Bool):Prop:=match x with
|.non=>k=false
|.bl b=>k=b
|.int i=>k=(i != 0)
|.str y=>y.length<=sizeLine/\k=((y.length:Int) != 0)
|.byt y=>y.size<=sizeLine/\k=((y.size:Int) != 0)
|.ref p=>(∃xs,c7 K H p xs/\k = ! xs.isEmpty)\/(∃xs,dQ K H p xs/\k = ! xs.isEmpty)\/∃kvs,Rd H p (.dK kvs)/\k = ! kvs.isEmpty
|_=>False
theorem OX{κ:Type}{kvs:List (κ×V)}{vs:List (κ×a_)}(r:KV kvs vs):(! vs.isEmpty) = ! kvs.isEmpty:=by cases r <;> rfl
theorem FA{xs:List V}{its:List a_}(r:aU xs its):(! its.toArray.isEmpty) = ! xs.isEmpty:=by cases r <;> simp
theorem oq:(sizeLine:Nat)<2^63:=by rw[QK];decide
theorem J9:BC X (fun x H Q=>∃k,nV X.K x H k/\Q k H):=by intro pz s σ H x v Q I rx h;obtain⟨k,e,q⟩:=h;have hl:=oq;have hs:sizeLine=16777216:=QK;cases x with
|non=>cases rx;have e':k=false:=e;subst e';exact truthy_none ⟨H,I,q⟩
|bl b=>cases rx;have e':k=b:=e;subst e';exact RQ ⟨H,I,q⟩
|int i=>obtain⟨t,rfl⟩:=rx;have e':k=(i != 0):=e;subst e';exact PySem.P.truthy_int ⟨H,I,q⟩
|str y=>obtain⟨t,rfl⟩:=rx;obtain⟨hy,e'⟩:y.length<=sizeLine/\k=((y.length:Int) != 0):=e;subst e';exact PySem.P.truthy_str (by omega) ⟨H,I.tok _,q⟩
|byt y=>obtain⟨t,rfl⟩:=rx;obtain⟨hy,e'⟩:y.size<=sizeLine/\k=((y.size:Int) != 0):=e;subst e';exact W.truthy_bytes (by omega) ⟨H,I.tok _,q⟩
|ref p=>
  cases rx;have e':(∃xs,c7 X.K H p xs/\k = ! xs.isEmpty)\/(∃xs,dQ X.K H p xs/\k = ! xs.isEmpty)\/∃kvs,Rd H p (.dK kvs)/\k = ! kvs.isEmpty:=e;rcases e' with⟨xs,hx,e'⟩|⟨xs,hx,e'⟩|⟨kvs,hx,e'⟩
  .subst e';obtain⟨its,r,pl,hz⟩:=I.list hx;have hlen:=r.length;exact wpAny_truthy_list pl.isList (by simp only[o_];omega) ⟨H,I.tok _,by rw[FA r];exact q⟩
  .subst e';obtain⟨its,r,pl,hz⟩:=I.tuple hx;have hlen:=r.length;exact truthy_tuple pl (by simp only[o_];omega) ⟨H,I.tok _,by rw[FA r];exact q⟩
  .subst e';obtain⟨hz,hS,vs,r,m⟩:kvs.length<=sizeLine/\(p==SH)=false/\∃vs,KV kvs vs/\s.heap.DictOf (hX X.prog X.w) p vs:=hx.ok I.hok;have hlen:kvs.length=vs.length:=Paired.length r;exact wpAny_truthy_dict hS m (by omega) ⟨H,I.tok _,by rw[OX r];exact q⟩
|_=>exact(show False from e).elim
theorem MA(ha:PE X a ta)(he:∀whole,isTrue a X.env whole=(do let v <-whole;W4 a.pos;Uo [v] (truthy v))):PT X a (fun σ H Q=>ta σ H fun x H'=>∃k,nV X.K x H' k/\Q k H'):=by intro pz s σ H Q I h;exact isTrue_plain (bU (ha pz s σ H _ I h) fun v s1 ⟨x,H1,I1,r1,q1⟩=>J9 pz s1 σ H1 x v Q I1 r1 q1) (he _)
theorem FC:cV X (Ss .Add) (fun x y H Q=>∃i j,x=.str i/\y=.str j/\i.length+j.length<=sizeLine/\Q (.str (i++j)) H):=by intro pz s σ H x y v u Q I rx ry h;obtain⟨i,j,rfl,rfl,hz,q⟩:=h;obtain⟨t,rfl⟩:=rx;obtain⟨t',rfl⟩:=ry;exact add_str (fun t' tk=>⟨.str (i++j),H,I.tok _,⟨_,rfl⟩,q⟩) hz
theorem jG{x:V}{us:List a_}(r:aU [x] us):∃u,us=[u]/\aY x u:=by cases r with
|cons r1 r2=>cases r2;exact⟨_,rfl,r1⟩
theorem sk{x y:V}{us:List a_}(r:aU [x,y] us):∃u w',us=[u,w']/\aY x u/\aY y w':=by cases r with
|cons r1 r2=>cases r2 with
 |cons r3 r4=>cases r4;exact⟨_,_,rfl,r1,r3⟩
def rF(K:W.Frag)(x:V)(H:Hp)(n:Nat):Prop:=match x with
|.str y=>y.length<=sizeLine/\n=y.length
|.byt y=>y.size<=sizeLine/\n=y.size
|.ref p=>(∃xs,c7 K H p xs/\n=xs.length)\/∃xs,dQ K H p xs/\n=xs.length
|_=>False
theorem Mt:gF X (.builtin "len") (fun xs H Q=>∃x n,xs=[x]/\rF X.K x H n/\Q (.int n) H):=by intro pz s σ H xs us Q I r h;obtain⟨x,n,rfl,e,q⟩:=h;obtain⟨u,rfl,rx⟩:=jG r;have hl:=oq;have hs:sizeLine=16777216:=QK;cases x with
|str y=>obtain⟨t,rfl⟩:=rx;obtain⟨hy,e'⟩:y.length<=sizeLine/\n=y.length:=e;subst e';exact len_str (by omega) ⟨.int _,H,I.tok _,⟨_,rfl⟩,q⟩
|byt y=>obtain⟨t,rfl⟩:=rx;obtain⟨hy,e'⟩:y.size<=sizeLine/\n=y.size:=e;subst e';exact W.len_bytes (by omega) ⟨.int _,H,I.tok _,⟨_,rfl⟩,q⟩
|ref p=>
  cases rx;have e':(∃xs,c7 X.K H p xs/\n=xs.length)\/∃xs,dQ X.K H p xs/\n=xs.length:=e;rcases e' with⟨xs,hx,e'⟩|⟨xs,hx,e'⟩
  .subst e';obtain⟨its,r',pl,hz⟩:=I.list hx;have hlen:=r'.length;exact Calls.call_len_list pl.isList (by simp only[o_];omega) ⟨.int xs.length,H,I.tok _,⟨_,by simp only[o_];rw[hlen]⟩,q⟩
  .subst e';obtain⟨its,r',pl,hz⟩:=I.tuple hx;have hlen:=r'.length;exact len_tuple pl (by simp only[o_];omega) ⟨.int xs.length,H,I.tok _,⟨_,by simp only[o_];rw[hlen]⟩,q⟩
|_=>exact(show False from e).elim
end
structure ObjM(h:Heap)(x dx C:Addr)(mA:Str->Option a_):Prop where
 obj:h.get? x=some (W.instObj C dx)
 ns:h.Ns1 dx mA
 ne:dx≠x
theorem fE.some_of{v:V}{o:Option a_}(r:fE (some v) o):∃u,o=some u/\aY v u:=by cases o with
|none=>exact(show False from r).elim
|some u=>exact⟨u,rfl,r⟩
structure Cls(K:W.Frag)(C:Addr):Prop where
 pg:W.plainGet K C Str.empty=true
 hd:W.hasDictIn K C=true
 po:W.plainOver K C=true
 sa:W.findIn K (.ref C) "__setattr__" = some (some (.builtin "object.__setattr__"))
theorem Cls.get{K:W.Frag}{C:Addr}(c:Cls K C)(f:Str):W.plainGet K C f=true:=c.pg
structure Con(K:W.Frag)(C:Addr)(f:Str)(v:V)(u:a_):Prop where
 at_:W.findIn K (.ref C) f=some (some u)
 rel:aY v u
 get:W.specialIn K u "__get__" = some none
 cp:W.copiedNames.contains f=false
structure Meth(K:W.Frag)(C:Addr)(m:Str)(f:Addr):Prop where
 at_:W.findIn K (.ref C) m=some (some (.ref f))
 fn:W.isFn K (.ref f)=true
 kp:W.keepIn K (.ref f)=true
section
variable{X:Cx}{pz:List (Addr×Obj)}{σ:St}{H:Hp}{s:d_}{a C dx:Addr}{fs:List (Str×V)}{f:Str}{v:V}{A:K_}{E:a_->d_->Prop}
theorem JM{prog:A_}{w:M_}{env:Env}{e:Expr}{f:Str}{pos:Pos}{s:d_}{Q:a_->d_->Prop}(hb:RN e f env (eval e env)=eval e env)(h:q_ (D_ prog w) A (eval e env) (fun o s₁=>q_ (D_ prog w) A (getAttr o f true) Q E s₁) E s):q_ (D_ prog w) A (eval (.Attribute e f pos) env) Q E s:=Attribute_any_ h (by rw[arm_eval_Attribute,hb])
end
section
variable{X:Cx}{pz:List (Addr×Obj)}{σ:St}{H:Hp}{s:d_}{A:K_}{E:a_->d_->Prop}{Q:a_->d_->Prop}{c:a_}{b:Bool}
inductive TyOf(K:W.Frag)(H:Hp):V->a_->Prop where
 |non:TyOf K H .non (.type "NoneType")
 |bl (x:Bool):TyOf K H (.bl x) (.type "bool")
 |int (i:Int):TyOf K H (.int i) (.type "int")
 |str (x:Str):TyOf K H (.str x) (.type "str")
 |flt (x:UInt64):TyOf K H (.flt x) (.type "float")
 |lst {a:Addr} {xs:List V} (e:H a=some (.lst xs)):TyOf K H (.ref a) (.type "list")
 |frz {a:Addr} {o:Obj} {xs:List V} (e:H a=some (.frz o (.lst xs))):TyOf K H (.ref a) (.type "list")
 |tup {a:Addr} {xs:List V} (e:H a=some (.tup xs)):TyOf K H (.ref a) (.type "tuple")
 |dK {a:Addr} {kvs:List (bQ×V)} (e:H a=some (.dK kvs)):TyOf K H (.ref a) (.type "dict")
 |dT {a:Addr} {kvs:List (List bQ×V)} (e:H a=some (.dT kvs)):TyOf K H (.ref a) (.type "dict")
 | ins {a C dx:Addr} {fs:List (Str × V)} (e:H a=some (.ins C dx fs)) (cl:Cls K C) (ha:W.findIn K (.ref C) "__class__" = some (some (.builtin "object.__class__")))
   (hn:W.specialIn K (.builtin "object.__class__") "__get__" = some (some (.builtin "getset_descriptor.__get__"))) (htk:W.takesIn K (.builtin "object.__class__")=some true)
   (hm:W.mroIn K C (.type "object")=some true):TyOf K H (.ref a) (.ref C)
end
structure Room(k:Nat)(A:K_):Prop where
 hd:A.handled=none
 dp:A.depth+3*k+5<Uw
 un:A.units+16*k+200<R6
 gd:A.guards=some []
theorem Room.mono{j k:Nat}{A:K_}(r:Room k A)(h:j<=k):Room j A:=⟨r.hd,by have:=r.dp;omega,by have:=r.un;omega,r.gd⟩
theorem Room.deeper{k:Nat}{A:K_}(r:Room (k+1) A)(env:Env):Room k (A.deeper env):=⟨r.hd,by have:=r.dp;show A.depth+1+3*k+5<_;omega,by have:=r.un;show A.units+3+16*k+200<_;omega,r.gd⟩
theorem OZ{A:K_}{C:Addr}{us:List a_}{kw:List (Str×a_)}:(A.under (.builtin "type.__call__" ⟨.ref C::us,kw⟩)).depth=A.depth+1:=by first|rfl|simp[U7,Code.weight,Code.isCreation,Ya,Code.isCaller,Ym,V9,guardIds]
theorem O0{A:K_}{C:Addr}{us:List a_}{kw:List (Str×a_)}:(A.under (.builtin "type.__call__" ⟨.ref C::us,kw⟩)).units=A.units+1:=by first|rfl|simp[U7,Code.cUnits,Ym,V9]
theorem Room.make{k:Nat}{A:K_}(r:Room (k+1) A)(C:Addr)(us:List a_)(kw:List (Str×a_)):Room k (A.under (.builtin "type.__call__" ⟨.ref C::us,kw⟩)):=⟨r.hd,by have:=r.dp;rw[OZ];omega,by have:=r.un;rw[O0];omega,(by have:=r.gd;first|exact this|(simp[U7,Ya,guardIds];exact this))⟩
theorem Room.depth{k:Nat}{A:K_}(r:Room k A):A.depth<Uw:=by have:=r.dp;omega
theorem Room.units{k:Nat}{A:K_}(r:Room k A):A.units+64<R6:=by have:=r.un;omega
def qS:TA:=fun _ H Q=>Q [] H
def wL(ta:TE)(tr:TA):TA:=fun σ H Q=>ta σ H fun x H1=>tr σ H1 fun xs H2=>Q (x::xs) H2
section
variable{X:Cx}{e:Expr}{es:List Expr}{te:TE}{t:TA}{pos:Pos}
theorem kh:PA X [] qS:=fun _ _ _ _ H Q I h=>Calls.spliced_nil ⟨[],H,I,.nil,h⟩
theorem iD(ha:PE X e te)(hr:PA X es t)(hs:h_ (e::es) X.env=(false,eval e X.env)::h_ es X.env:=by rfl):PA X (e::es) (wL te t):=by intro pos pz s σ H Q I h;rw[hs];show q_ _ _ (spliced ((false,eval e X.env)::backTo pos (h_ es X.env))) _ _ s;refine Calls.spliced_cons (bU (ha pz s σ H _ I h) fun u s1 ⟨x,H1,I1,r1,q1⟩=>?_);exact bU (hr pos pz s1 σ H1 _ I1 q1) fun us s2 ⟨xs,H2,I2,r2,q2⟩=>⟨x::xs,H2,I2,.cons r1 r2,q2⟩
def A9(t:TA):TE:=fun σ H Q=>t σ H fun xs H1=>xs.length<=sizeLine/\∀p,H1 p=none->Q (.ref p) (upd H1 p (.tup xs))
def Bc(t:TA):TE:=fun σ H Q=>t σ H fun xs H1=>xs.length<=sizeLine/\∀p,H1 p=none->Q (.ref p) (upd H1 p (.lst xs))
theorem Jt{x1}(h:PA X es t):PE X (.Tuple es x1 pos) (A9 t):=by intro pz s σ H Q I hq;refine wpAny_Tuple_spliced (bU (h pos pz s σ H _ I hq) fun us s1 ⟨xs,H1,I1,r,z,q⟩=>⟨by rw[<-r.length];exact z,?_⟩);have hf:H1 s1.heap.objs.size=none:=I1.hok.fresh (r_ _);refine⟨.ref s1.heap.objs.size,upd H1 s1.heap.objs.size (.tup xs),I1.laid (t':=s1.toks) (fun b u e=>e_ _ e) (r_ _) ?_,rfl,q _ hf⟩;exact⟨z,us,r,⟨_,x_ _ rfl,rfl,_,rfl⟩,_,x_ _ rfl,rfl⟩
theorem Jp(h:PA X es t):PE X (.List es pos) (Bc t):=by intro pz s σ H Q I hq;refine wpAny_List_spliced (bU (h pos pz s σ H _ I hq) fun us s1 ⟨xs,H1,I1,r,z,q⟩=>⟨by rw[<-r.length];exact z,?_⟩);have hf:H1 s1.heap.objs.size=none:=I1.hok.fresh (r_ _);refine⟨.ref s1.heap.objs.size,upd H1 s1.heap.objs.size (.lst xs),I1.laid (t':=s1.toks) (fun b u e=>e_ _ e) (r_ _) ?_,rfl,q _ hf⟩;exact⟨z,us,0,r,x_ _ rfl⟩
end
abbrev Sp:=List V->Hp->VK->XK->Prop
abbrev gY:=List Env->Hp->d_->XK->a_->d_->Prop
structure Env0(P:A_)(w:M_)(K:W.Frag)(mg:Str->Option a_)(base:Heap)(A:K_)(outer:List Env)(s:d_)(H:Hp):Prop where
 frames:A.frames=some outer
 mod:Mod K mg base
 bs:∀b o,base.get? b=some o->s.heap.get? b=some o/\H b=none
 bsz:base.objs.size<=s.heap.objs.size
 funs:s.heap.FunFrames base outer
 frf:∀b∈dw outer,H b=none
 hok:dR P w H s.heap
 bare:TC s.gens
def CE(outer:List Env)(P:A_)(w:M_)(H:Hp)(s:d_)(Q:VK)(u:a_)(s':d_):Prop:=∃v H',s'.os=s.os/\TC s'.gens/\Un (dw outer) [] H H' s.heap s'.heap/\dR P w H' s'.heap/\aY v u/\Q v H'
def CR(CX:gY)(outer:List Env)(P:A_)(w:M_)(H:Hp)(s:d_)(Q:VK)(E:XK)(r:Yb)(s':d_):Prop:=match r with
|.ok (.ret u)=>CE outer P w H s Q u s'
|.ok _=>False
|.error e=>CX outer H s E e s'
structure FnOk(P:A_)(w:M_)(K:W.Frag)(mg:Str->Option a_)(base:Heap)(CX:gY)(k:Nat)(f:Addr)(fd:Q7)(ps:List Str)(sp:Sp):Prop where
 len:∀vs H Q E,sp vs H Q E->vs.length=ps.length
 run:∀(A:K_)(outer:List Env)(s:d_)(H:Hp)(args:Args)(us:List a_)(vs:List V)(Q:VK)(E:XK),Room k A->Env0 P w K mg base A outer s H->U8 s fd args (ps.zip us)->aU vs us->sp vs H Q E ->UK (D_ P w) A (.call (.ref f) args) (CR CX outer P w H s Q E) s
theorem FnOk.mono{P:A_}{w:M_}{K:W.Frag}{mg:Str->Option a_}{base:Heap}{CX:gY}{j k:Nat}{f:Addr}{fd:Q7}{ps:List Str}{sp:Sp}(F:FnOk P w K mg base CX j f fd ps sp)(h:j<=k):FnOk P w K mg base CX k f fd ps sp:=⟨F.len,fun A outer s H args us vs Q E hr=>F.run A outer s H args us vs Q E (hr.mono h)⟩
theorem Env0.make{P:A_}{w:M_}{K:W.Frag}{mg:Str->Option a_}{base:Heap}{A:K_}{outer:List Env}{s:d_}{H:Hp}(e:Env0 P w K mg base A outer s H)(C:Addr)(us:List a_)(kw:List (Str×a_)):Env0 P w K mg base (A.under (.builtin "type.__call__" ⟨.ref C::us,kw⟩)) outer s H:=⟨by first|exact e.frames|(simpa[U7,Code.envs,V9,pushEnvs]using e.frames),e.mod,e.bs,e.bsz,e.funs,e.frf,e.hok,e.bare⟩
section
variable{X:Cx}{pz:List (Addr×Obj)}{σ:St}{H:Hp}{s s':d_}
theorem Inv.env0(I:Inv X pz σ H s):Env0 X.prog X.w X.K X.mg X.base X.A X.stack s H:=⟨I.ok.frames,I.ok.mod,I.bs,QI I.ok.bsz I.sz,I.stack,I.stkFree,I.hok,I.bare⟩
theorem Inv.after{Q:VK}{u:a_}(I:Inv X pz σ H s)(h:CE X.stack X.prog X.w H s Q u s'):EP X pz σ Q u s':=by obtain⟨v,H',os,bare,un,hok,r,q⟩:=h;obtain⟨hh,g,d,t,os'⟩:=s';obtain rfl:os'=s.os:=os;exact⟨v,H',I.call (h':=hh) (g':=g) (d':=d) (t':=t) (ch:=[]) un hok bare (fun b z=>absurd z (by simp)),r,q⟩
end
def Ck(sp:Sp)(dvs:List V)(E:XK)(t:TA):TE:=fun σ H Q=>t σ H fun vs H1=>sp (vs++dvs) H1 Q E
def ik(K:W.Frag)(fd:Q7)(ps:List Str)(ds:List a_):Prop:=∀(s:d_)(us:List a_),K.In s.heap->(us++ds).length=ps.length->U8 s fd ⟨us,[]⟩ (ps.zip (us++ds))
theorem ik.all{K:W.Frag}{fd:Q7}{ps:List Str}(h:∀us:List a_,us.length=ps.length->Tk fd ⟨us,[]⟩=pure (ps.zip us)):ik K fd ps []:=fun s us _ hl=>by rw[QX]at hl ⊢;exact .of_eq (h us hl)
def pU(CX:gY)(X:Cx)(E:XK):Prop:=∀(pz:List (Addr×Obj))(σ:St)(H:Hp)(s:d_)(e:a_)(s':d_),Inv X pz σ H s->CX X.stack H s E e s'->X.xe e s'
section
variable{X:Cx}{CX:gY}{k:Nat}{f C:Addr}{fd:Q7}{ps:List Str}{sp:Sp}{dvs:List V}{ds:List a_}{E:XK}{x m:Str}{p pos apos:Pos}{e o:Expr}{es:List Expr}{ta:TE}{t:TA}
theorem IY{pz:List (Addr×Obj)}{σ:St}{H:Hp}{s:d_}{Q:VK}{us:List a_}{vs:List V}(F:FnOk X.prog X.w X.K X.mg X.base CX k f fd ps sp)(hr:Room k X.A)(hb:ik X.K fd ps ds)(hd:aU dvs ds)(hx:pU CX X E)(I:Inv X pz σ H s)(r:aU vs us)(h:sp (vs++dvs) H Q E):q_ (D_ X.prog X.w) X.A (call (.ref f) us) (EP X pz σ Q) X.xe s:=by
 have r2:aU (vs++dvs) (us++ds):=r.append hd;have hl:(us++ds).length=ps.length:=by rw[<-r2.length];exact F.len _ _ _ _ h
 refine Ta (TF (F.run X.A X.stack s H ⟨us,[]⟩ (us++ds) (vs++dvs) Q E hr I.env0 (hb s us I.kIn hl) r2 h) fun r s' hq=>?_);cases r with
|error e=>exact hx pz σ H s e s' I hq
|ok fl=>cases fl with
 |ret u=>exact I.after hq
 |next=>exact QF hq
 |brk=>exact QF hq
 |cont=>exact QF hq
theorem Kq(F:FnOk X.prog X.w X.K X.mg X.base CX k f fd ps sp)(hr:Room k X.A)(hg:Gl X x)(hm:X.mg x=some (.ref f))(hk:W.keepIn X.K (.ref f)=true)(hb:ik X.K fd ps ds)(hd:aU dvs ds)(hx:pU CX X E)(ha:PA X (e::es) t)(hdb:(x==("__debug__" : Str))=false:=by decide)(he:h_ (e::es) X.env=(false,eval e X.env)::h_ es X.env:=by rfl)(hpl:(backTo pos (h_ es X.env)).any (·.1)=false:=by rfl):PE X (.Call (.Name x p) (e::es) [] pos) (Ck sp dvs E t):=by intro pz s σ H Q I h;refine R7 (l7 I hg hm ?_ hdb);refine W.callWith_K (h₀:=X.base) I.ok.mod.kin hk (bU (ha pos pz s σ H _ I h) fun us s1 ⟨vs,H1,I1,r,q⟩=>⟨I1.kIn,?_⟩) he hpl;exact IY F hr hb hd hx I1 r q
structure Mk(K:W.Frag)(C f:Addr):Prop where
 makes:W.makesIn K C=true
 init:W.findIn K (.ref C) "__init__" = some (some (.ref f))
 fn:W.isFn K (.ref f)=true
 kp:W.keepIn K (.ref C)=true
end
section
variable{X:Cx}{CX:gY}{k:Nat}{f C:Addr}{fd:Q7}{ps ks:List Str}{sp:Sp}{E:XK}{x m:Str}{p pos apos kpos:Pos}{e o:Expr}{es:List Expr}{kws:List T5}{te ta:TE}{t tk:TA}{nm:Option Str}
structure KBinds(K:W.Frag)(fd:Q7)(ps ks:List Str)(g:List a_->List a_->List a_)(gV:List V->List V->List V):Prop where
 to:∀(s:d_)(us ws:List a_),K.In s.heap->(g us ws).length=ps.length->U8 s fd ⟨us,ks.zip ws⟩ (ps.zip (g us ws))
 rel:∀{vs:List V}{us:List a_}{zs:List V}{ws:List a_},aU vs us->aU zs ws->aU (gV vs zs) (g us ws)
variable{g:List a_->List a_->List a_}{gV:List V->List V->List V}
end
structure FnScope(N P:List Str)(sc:Sz):Prop where
 kind:sc.kind=.function
 co:sc.isCoroutine=false
 gen:sc.isGenerator=false
 nd:N.Nodup
 pre:N.take P.length=P
 par:∀x∈P,sc.names.lookup x=some .local\/sc.names.lookup x=some .cell
 nofree:∀y∈sc.names,y.2≠.free
theorem EO{kindOf:Str->Option Tb}{x:Str}:∀{binds:List (Str×a_)}{m:Str->Option a_},(∀v,(x,v)∉binds)->WN kindOf binds m x=m x
|[],_,_=>rfl
|(n,v)::r,m,h=>by
  unfold WN;rw[EO fun w hw=>h w (m_ _ hw)];split
  .have:x≠n:=by rintro rfl;exact h v k_
   simp[this]
  .rfl
theorem EN{kindOf:Str->Option Tb}{x:Str}:∀{binds:List (Str×a_)}{m:Str->Option a_},(∀v,(x,v)∉binds)->WO kindOf binds m x=m x
|[],_,_=>rfl
|(n,v)::r,m,h=>by
  unfold WO;rw[EN fun w hw=>h w (m_ _ hw)];split
  .rfl
  .have:x≠n:=by rintro rfl;exact h v k_
   simp[this]
theorem zG{kindOf:Str->Option Tb}{x:Str}{v:a_}:∀{P:List Str}{vs:List a_}{i:Nat}{m:Str->Option a_},P.Nodup->P[i]? = some x->vs[i]? = some v->kindOf x=some .local ->WN kindOf (P.zip vs) m x=some v
|[],_,_,_,_,h,_,_=>by simp at h
|_::_,[],_,_,_,_,h,_=>by simp at h
|p::P,w::vs,0,m,nd,h1,h2,hk=>by simp at h1 h2;subst h1;subst h2;show WN kindOf ((p,w)::P.zip vs) m p=_;unfold WN;rw[EO fun v hv=>(RX.mp nd).1 (Uf hv).1,if_pos hk];simp
|p::P,w::vs,i+1,m,nd,h1,h2,hk=>by show WN kindOf ((p,w)::P.zip vs) m x=_;unfold WN;exact zG (i:=i) (RX.mp nd).2 (by simpa using h1) (by simpa using h2) hk
theorem zF{kindOf:Str->Option Tb}{x:Str}{v:a_}:∀{P:List Str}{vs:List a_}{i:Nat}{m:Str->Option a_},P.Nodup->P[i]? = some x->vs[i]? = some v->kindOf x≠some .local ->WO kindOf (P.zip vs) m x=some v
|[],_,_,_,_,h,_,_=>by simp at h
|_::_,[],_,_,_,_,h,_=>by simp at h
|p::P,w::vs,0,m,nd,h1,h2,hk=>by simp at h1 h2;subst h1;subst h2;show WO kindOf ((p,w)::P.zip vs) m p=_;unfold WO;rw[EN fun v hv=>(RX.mp nd).1 (Uf hv).1,if_neg hk];simp
|p::P,w::vs,i+1,m,nd,h1,h2,hk=>by show WO kindOf ((p,w)::P.zip vs) m x=_;unfold WO;exact zF (i:=i) (RX.mp nd).2 (by simpa using h1) (by simpa using h2) hk
def cR(N:List Str)(vs:List V):St:=vs.map some++y_ (N.length-vs.length) none
def cX(CX:gY)(P:A_)(w:M_)(K:W.Frag)(mg:Str->Option a_)(base:Heap)(N:List Str)(qual:Str)(scope:Sz)(f:Addr)(cd:a_)(A:K_)(outer:List Env)(s:d_)(H:Hp)(E:XK):Cx where
 prog:=P
 w:=w
 K:=K
 mg:=mg
 base:=base
 A:=A.deeper (Sj qual scope s.heap.objs.size f cd)
 N:=N
 s₀:=s
 H₀:=H
 env:=Sj qual scope s.heap.objs.size f cd
 outer:=outer
 stack:=Sj qual scope s.heap.objs.size f cd::outer
 ex:=[]
 calm:=true
 fn:=fun _=>true
 pn:=[]
 xe:=fun e s'=>q_ (D_ P w) (A.deeper (Sj qual scope s.heap.objs.size f cd)) (leaving (Sj qual scope s.heap.objs.size f cd) e) (fun _ s''=>CX outer H s E e s'') (fun e' s''=>CX outer H s E e' s'') s'
theorem sQ{sc:Sz}{n:Nat}{x:Str}(h:sc.names.lookup x=some .cell):∃c,(VE n sc.names []).lookup x=some c:=by have q:=W.cellsFrom_some sc.names n [] (.inl h);exact Option.isSome_iff_exists.mp q
theorem NB{CX:gY}{P:A_}{w:M_}{K:W.Frag}{mg:Str->Option a_}{base:Heap}{N ps:List Str}{qual:Str}{scope:Sz}{f:Addr}{cd:a_}{A:K_}{outer:List Env}{s s1:d_}{H:Hp}{E:XK}{us:List a_}{vs:List V}(S:FnScope N ps scope)(hd:A.handled=none)(e0:Env0 P w K mg base A outer s H)(hl:vs.length=ps.length)(r:aU vs us)(x:InCallC s s.heap.objs.size (WN (Sj qual scope s.heap.objs.size f cd).kindOf (ps.zip us) fun _=>none) (VE (s.heap.objs.size+1) scope.names []) (WO (Sj qual scope s.heap.objs.size f cd).kindOf (ps.zip us) fun _=>none) s1):Inv (cX CX P w K mg base N qual scope f cd A outer s H E) [] (cR N vs) H s1:=by
 have hpl:ps.length<=N.length:=by have:=congrArg Tw S.pre;rw[QM]at this;omega
 obtain⟨h1,tk,rfl,hk⟩:=x.done;have noA:∀b:Addr,b∉(cX CX P w K mg base N qual scope f cd A outer s H E).ex:=fun b z=>absurd (show b∈([]:List Addr)from z) (by simp);refine⟨⟨e0.mod,S.kind,rfl,rfl,r_ _,fun y z c h1 h2=>?_,fun y hy=>?_,fun y c _ h=>?_,fun _=>hd,Vq e0.frames,.inr ⟨rfl,rfl⟩,fun b z=>absurd z (noA b),e0.bs,e0.bsz,fun b _ _=>noA b,fun b z=>absurd z (noA b),e0.funs,e0.frf⟩,rfl,e0.bare,Un.kept hk,⟨_,x.toInCall.ns,fun i y v h1 h2 h3=>?_⟩,fun y c h=>⟨_,x.cell y c h⟩,e0.hok.fresh (r_ _),fun y c h=>?_,fun p hp=>absurd (show p∈([]:List (Addr×Obj))from hp) (by simp),e0.hok.kept hk,?_⟩
 .exact name_of_addr x.apart (QR h1) (QR h2)
 .have hy:scope.names.lookup y=some .cell\/scope.names.lookup y=some .free:=hy;rcases hy with hy|hy
  .exact sQ hy
  .exact absurd rfl (S.nofree _ (QR hy))
 .exact Ul (x.above y c (QR h))
 .have hi:i<vs.length:=by
   unfold cR at h2;by_cases hi:i<vs.length
   .exact hi
   .rw[Q6 (by simpa using hi)]at h2;rw[Re]at h2;split at h2 <;> cases h2
  have ha:vs[i]? = some v:=by unfold cR at h2;rw[I_ (by simpa using hi),F_]at h2;cases e:vs[i]? with
  |none=>rw[e]at h2;cases h2
  |some a=>rw[e]at h2;cases h2;rfl
  obtain⟨u,hu,rv⟩:=r.get ha;have hp:ps[i]? = some y:=by rw[<-S.pre,UP (by omega)];exact h1
  have ndP:ps.Nodup:=by rw[<-S.pre];exact S.nd.sublist (UL _ _)
  refine⟨u,rv,?_⟩;rcases S.par y (Q1 hp)with k|k
  .exact .inl ⟨k,zG ndP hp hu k⟩
  .obtain⟨c,e⟩:=sQ (n:=s.heap.objs.size+1) k;refine .inr ⟨.inl k,c,e,?_⟩;have q:=x.cell y c e;rw[zF ndP hp hu (by show scope.names.lookup y≠_;rw[k];decide)]at q;exact q
 .exact e0.hok.fresh (Ul (x.above y c (QR h)))
 .unfold cR;show _=N.length;rw[L_,p_,RH];omega
theorem rO{CX:gY}{P:A_}{w:M_}{K:W.Frag}{mg:Str->Option a_}{base:Heap}{k:Nat}{f:Addr}{name qual:Str}{params:X7}{body:List Stmt}{scope:Sz}{dV kV doc pm cdv ct oc:a_}{an od:Option Addr}{osl:Array (Option a_)}{N ps:List Str}{sp:Sp}(lk:K.lookup f=some ⟨oc,od,.func (W.fnOf name qual params body scope dV kV doc pm an cdv ct),osl⟩)(hcd:W.codeIn K cdv qual=true)(S:FnScope N ps scope)(len:∀vs H Q E,sp vs H Q E->vs.length=ps.length)(hbody:∀(A:K_)(outer:List Env)(s:d_)(H:Hp)(vs:List V)(Q:VK)(E:XK),Room k (A.deeper (Sj qual scope s.heap.objs.size f cdv))->sp vs H Q E ->∃t,eY (cX CX P w K mg base N qual scope f cdv A outer s H E) body t/\t { nx:=fun _ H'=>Q .non H',rt:=Q } (cR N vs) H):FnOk P w K mg base CX (k+1) f (W.fnOf name qual params body scope dV kV doc pm an cdv ct) ps sp:=by
 refine⟨len,fun A outer s H args us vs Q E hr e0 hb r hsp=>?_⟩;have hl:=len _ _ _ _ hsp;have KX:K.In s.heap:=e0.mod.kin.keeps fun b o e=>(e0.bs b o e).1;have lim:s.heap.NoLimit:=e0.mod.nolimit.keeps fun b o e=>(e0.bs b o e).1;have hkind:∀y∈ps.zip us,scope.names.lookup y.1=some .local\/(scope.names.lookup y.1=some .cell/\((VE (s.heap.objs.size+1) scope.names []).lookup y.1).isSome=true):=fun⟨n,v⟩ hy=>by
  rcases S.par n (Uf hy).1 with q|q
  .exact .inl q
  .exact .inr ⟨q,W.cellsFrom_some _ _ _ (.inl q)⟩
 refine Vm hr.depth (KX _ _ lk) rfl S.co S.gen rfl (W.codeRec_of KX hcd) (hb _ _ _ _ ?_);refine Ux S.kind hkind fun env he s1 x=>?_;subst he;refine⟨lim.keeps x.toInCall.keep,codeAny_func ?_⟩;obtain⟨t,ht,hq⟩:=hbody A outer s H vs Q E (hr.deeper _) hsp;have I:Inv (cX CX P w K mg base N qual scope f cdv A outer s H E) [] (cR N vs) H s1:=NB S hr.hd e0 hl r x;refine QP (ht [] s1 (cR N vs) H _ I hq) (fun fl s' hs=>?_) fun e s' hs=>hs;have fin:∀{σ':St}{H':Hp}{v:V}{u:a_},Inv (cX CX P w K mg base N qual scope f cdv A outer s H E) [] σ' H' s'->aY v u->Q v H'->CE outer P w H s Q u s':=fun{σ' H' v u} J rv q=>⟨v,H',J.os,J.bare,J.base,J.hok,rv,q⟩
 cases fl with
|ret u=>obtain⟨v,σ',H',J,rv,q⟩:=hs;exact fin J rv q
|next=>obtain⟨σ',H',J,q⟩:=hs;exact fin (v:=V.non) (u:=Value.none) J rfl q
|brk=>obtain⟨_,_,_,q⟩:=hs;exact QF q
|cont=>obtain⟨_,_,_,q⟩:=hs;exact QF q
section
variable{X:Cx}{x:Str}{p pos:Pos}{e:Expr}{es:List Expr}{t:TA}{id T:String}{r:List V->Hp->VK->Prop}
def vM(r:List V->Hp->VK->Prop)(t:TA):TE:=fun σ H Q=>t σ H fun vs H1=>r vs H1 Q
theorem m9(hc:gF X (.builtin id) r)(hg:Gl X x)(hm:X.mg x=none)(hv:SJ x=some (.builtin id))(ha:PA X (e::es) t)(hn:x≠"__name__" := by decide)(hdb:(x==("__debug__" : Str))=false:=by decide)(he:h_ (e::es) X.env=(false,eval e X.env)::h_ es X.env:=by rfl)(hpl:(backTo pos (h_ es X.env)).any (·.1)=false:=by rfl):PE X (.Call (.Name x p) (e::es) [] pos) (vM r t):=by intro pz s σ H Q I h;refine R7 (mO I hg hm hv ?_ hn hdb);exact Ws (bU (ha pos pz s σ H _ I h) fun us s1 ⟨vs,H1,I1,r1,q1⟩=>hc pz s1 σ H1 vs us Q I1 r1 q1) he hpl
theorem qk(hc:gF X (.type T) r)(hg:Gl X x)(hm:X.mg x=none)(hv:SJ x=some (.type T))(ha:PA X (e::es) t)(hn:x≠"__name__" := by decide)(hdb:(x==("__debug__" : Str))=false:=by decide)(he:h_ (e::es) X.env=(false,eval e X.env)::h_ es X.env:=by rfl)(hpl:(backTo pos (h_ es X.env)).any (·.1)=false:=by rfl):PE X (.Call (.Name x p) (e::es) [] pos) (vM r t):=by intro pz s σ H Q I h;refine R7 (mO I hg hm hv ?_ hn hdb);exact Ru (bU (ha pos pz s σ H _ I h) fun us s1 ⟨vs,H1,I1,r1,q1⟩=>hc pz s1 σ H1 vs us Q I1 r1 q1) he hpl
end
end L2
namespace HT
open PySem PyProof.Rows
def dH:List Int->List Int->Bool
|[],[]=>false
|[],_::_=>true
|_::_,[]=>false
|x::xs,y::ys=>if x=y then dH xs ys else decide (x<y)
theorem fX(x y:Int)(xs ys:List Int):dH (x::xs) (y::ys)=if x=y then dH xs ys else decide (x<y):=rfl
theorem Pu:dH [] []=false:=rfl
theorem PX(y:Int)(ys:List Int):dH [] (y::ys)=true:=rfl
theorem PV(x:Int)(xs:List Int):dH (x::xs) []=false:=rfl
theorem Ma(A:K_)(s:d_)(a:Int)(t:Tok)(c:Int)(u:Tok):∃e,VU A s (.int a t) (.int c u) e/\(e=true↔a=c):=⟨(a==c),Uy a t c u,by simp⟩
theorem ie(A:K_)(s:d_)(a:Int)(t:Tok)(c:Int)(u:Tok)(prog:A_)(w:M_)(E:a_->d_->Prop)(Q:a_->d_->Prop)(h:Q (.bool (decide (a<c))) s):q_ (D_ prog w) A (richCompare .Lt (.int a t) (.int c u)) Q E s:=(PyProof.Rows.lt_int h:q_ (D_ prog w) A (QG .Lt (.int a t) (.int c u)) Q E s)
section
open PySem.SeqAt
open PySem.AutoSeq1 (wpAny_loadPart')
open PySem.MeetsSeq PySem.MeetsSeq2 PySem.MeetsSeq3
theorem Qb(l b:Addr)(items items2:Array a_)(n n2:Nat)(dd dd2:Option Addr)(sl sl2:Array (Option a_))(ns ms:List Int)(hi:Tq items.toList ns)(hj:Tq items2.toList ms) :
  Yn (RE.«tuple.__lt__» ⟨[.ref l,.ref b],[]⟩)
   (fun _ R s=>s.heap.get? l=some { cls:=.type "tuple",dict:=dd,data:=.seq items n,slots:=sl }/\s.heap.get? b=some { cls:=.type "tuple",dict:=dd2,data:=.seq items2 n2,slots:=sl2 } /\R (.ok (.ret (.bool (dH ns ms)))) s):=
 .of_wp fun prog w A R s h=>by
  obtain⟨hp,g,d,tk,os⟩:=s;obtain⟨hl,hb,h⟩:=h;have f2:=AutoSeq1.sub_tuple_tuple;have z1:items.size=ns.length:=by rw[<-hi.length];simp
  have z2:items2.size=ms.length:=by rw[<-hj.length];simp
  wp_walk using SM hl,SM hb,wpAny_forIn_list _ (fun rest b s'=>b.1=none/\s'=⟨hp,g,d,tk,os⟩/\∃(vs ws:List a_)(ns' ms':List Int),rest=vs.zip ws /\Tq vs ns'/\Tq ws ms'/\ns'.length+items2.size=ms'.length+items.size/\R (.ok (.ret (.bool (dH ns' ms')))) ⟨hp,g,d,tk,os⟩) _
  case turn=>
   rintro⟨y,x⟩ rest b s' ⟨hb',rfl,vs,ws,ns',ms',hz,hvi,hwi,hlen,hR⟩
   cases hvi with
  |nil=>rw[List.zip_nil_left]at hz;cases hz
  |cons a t hvi'=>cases hwi with
   |nil=>rw[List.zip_nil_right]at hz;cases hz
   |cons c u hwi'=>
     rw[VV]at hz;injection hz with hyx hrest
     injection hyx with hy hx
     subst hy hx;rw[fX]at hR;simp only[Q8]at hlen;obtain⟨e,he,hiff⟩:=Ma A.in1 ⟨hp,g,d,tk,os⟩ a t c u;refine b_ (he prog w _ _ ?_);cases e with
    |true=>
      rw[if_pos (hiff.mp rfl)]at hR
      wp_walk
      exact⟨rfl,rfl,_,_,_,_,hrest,hvi',hwi',by omega,hR⟩
    |false=>
      rw[if_neg (fun q=>absurd (hiff.mpr q) i_)]at hR;have hri:=ie A.in1 ⟨hp,g,d,tk,os⟩ a t c u prog w
      wp_walk using hri
      exact⟨_,rfl,by simpa using hR⟩
  case fin=>
   rintro⟨b1,b2⟩ s' ⟨hb',rfl,vs,ws,ns',ms',hz,hvi,hwi,hlen,hR⟩
   simp only at hb';subst hb';have hv:dH ns' ms'=decide (items.size<items2.size):=by cases hvi with
   |nil=>cases hwi with
    |nil=>simp only[Tr]at hlen;rw[Pu];exact(decide_eq_false (by omega)).symm
    |cons c u hw=>simp only[Tr,Q8]at hlen;rw[PX];exact(decide_eq_true (by omega)).symm
   |cons a t hv=>cases hwi with
    |nil=>simp only[Tr,Q8]at hlen;rw[PV];exact(decide_eq_false (by omega)).symm
    |cons c u hw=>rw[VV]at hz;cases hz
   rw[hv]at hR
   wp_walk
   exact⟨_,rfl,by simpa[Wl]using hR⟩
  case h=>exact⟨rfl,rfl,items.toList,items2.toList,ns,ms,rfl,hi,hj,by omega,h⟩
end
section
variable{prog:A_}{w:M_}{A:K_}{E:a_->d_->Prop}{s:d_}
theorem iK{l b:Addr}{items items2:Array a_}{ns ms:List Int}{Q:a_->d_->Prop}(hl:WL s.heap l items)(hb:WL s.heap b items2)(hi:Tq items.toList ns)(hj:Tq items2.toList ms)(hu:A.units<R6)(h:Q (.bool (dH ns ms)) s):q_ (D_ prog w) A (QG .Lt (.ref l) (.ref b)) Q E s:=by
 obtain⟨⟨cls,dd,data,sl⟩,ho,hc,n,hd⟩:=id hl;obtain⟨⟨cls2,dd2,data2,sl2⟩,ho2,hc2,n2,hd2⟩:=id hb;simp only at hc hd hc2 hd2;subst hc hd hc2 hd2;exact richCompare_meets_room (op:=.Lt) ⟨_,ho,rfl⟩ ⟨_,ho2,rfl⟩ PySem.F.slot_tuple_lt PySem.F.entry_tuple_lt (PySem.F.args_tuple_lt_2 _ _) (Qb l b items items2 n n2 dd dd2 sl sl2 ns ms hi hj)
  ⟨ho,ho2,show Value.bool (dH ns ms)≠Value.notImplemented/\Q (.bool (dH ns ms)) s from⟨(fun x=>nomatch x),h⟩⟩ hu
theorem lF{t b:Addr}{vs ws:List a_}{Q:a_->d_->Prop}(ht:WL s.heap t vs.toArray)(hb:WL s.heap b ws.toArray)(hv:vs≠[])(h1:ws=[]->Q (.ref t) s)(h2:ws≠[]->Q (.ref s.heap.objs.size) { s with heap:=s.heap.push { cls:=.type "tuple",data:=.seq (vs++ws).toArray } })(hsz:vs.length+ws.length<=sizeLine):q_ (D_ prog w) A (Ss .Add (.ref t) (.ref b)) Q E s:=by
 obtain⟨⟨cls,dd,data,sl⟩,ho,hc,n,hd⟩:=id ht;obtain⟨⟨cls2,dd2,data2,sl2⟩,ho2,hc2,n2,hd2⟩:=id hb;simp only at hc hd hc2 hd2;subst hc hd hc2 hd2;have e:vs.toArray++ws.toArray=(vs++ws).toArray:=by simp
 by_cases hw:ws=[]
 .exact U9 ⟨_,ho,rfl⟩ ⟨_,ho2,rfl⟩ UY VP TH Tx (Tl _ _)
   (tuple_addW1 t b vs.toArray ws.toArray n n2 dd dd2 sl sl2 (by simpa using hv) (by simp[hw])) ⟨ho,ho2,h1 hw⟩
 .refine U9 ⟨_,ho,rfl⟩ ⟨_,ho2,rfl⟩ UY VP TH Tx (Tl _ _)
   (tuple_addW2 t b vs.toArray ws.toArray n n2 dd dd2 sl sl2 (by simpa using hv) (by simpa using hw) (by rw[o_,o_];exact hsz)) ⟨ho,ho2,?_⟩
  rw[e];exact h2 hw
def sIx(n d:Nat):Option Int->Nat
|none=>d
|some v=>if v<0 then(v+(n:Int)).toNat else min v.toNat n
theorem fV(n d:Nat):sIx n d none=d:=rfl
theorem gL(n d k:Nat):sIx n d (some (k:Int))=min k n:=by show(if (k:Int)<0 then((k:Int)+(n:Int)).toNat else min (k:Int).toNat n)=min k n;rw[if_neg (by omega),Rw]
theorem IZ(n d:Nat)(hd:d<=n)(o:Option Int):sIx n d o<=n:=by cases o with
|none=>exact hd
|some v=>
  show(if v<0 then(v+(n:Int)).toNat else min v.toNat n)<=n;by_cases hv:v<0
  .rw[if_pos hv];omega
  .rw[if_neg hv];exact Wt _ _
theorem Dq(v:Int)(n d:Nat):(if v<0 then max (v+(n:Int)) 0 else min v (n:Int))=((sIx n d (some v):Nat):Int):=by
 show(if v<0 then max (v+(n:Int)) 0 else min v (n:Int))=(((if v<0 then(v+(n:Int)).toNat else min v.toNat n):Nat):Int)
 by_cases hv:v<0
 .simp only[if_pos hv];omega
 .simp only[if_neg hv];omega
theorem OQ(lo hi:Option Int)(n:Nat):Tg lo hi 1 (n:Int)=(((sIx n 0 lo:Nat):Int),((sIx n n hi:Nat):Int)):=by
 have h1:¬ ((1:Int)<0):=by omega
 unfold Tg;simp only[h1,if_false];refine Prod.ext ?_ ?_
 .cases lo with
 |none=>rfl
 |some v=>exact Dq v n 0
 .cases hi with
 |none=>rfl
 |some v=>exact Dq v n n
theorem Ov(i j:Nat):Sc (i:Int) (j:Int) 1=j-i:=by
 unfold Sc;have h1:(1:Int)>0:=by omega
 simp only[h1,if_true,Int.ediv_one];split <;> omega
theorem FJ{v:a_}{o:Option Int}{Q:Option Int->d_->Prop}(p:VW v o)(h:Q o s):q_ (D_ prog w) A (WS v) Q E s:=by cases p with
|none=>exact slicePart_none h
|int i t=>exact slicePart_int h
theorem Qj{sl:Addr}{vl vu:a_}{lo hi:Option Int}{n:Nat}{Q:Int×Int×Nat->d_->Prop}(hs:s.heap.IsSliceOf sl vl vu .none)(pl:VW vl lo)(pu:VW vu hi)(h:Q (((sIx n 0 lo:Nat):Int),1,sIx n n hi-sIx n 0 lo) s):q_ (D_ prog w) A (Uz (.ref sl) (pure (n:Int))) Q E s:=by obtain⟨os,hos,hcs,hds⟩:=id hs;unfold Uz Xz;refine b_ (b_ (QQ hos hds (x:=vl) rfl (b_ (QQ hos hds (x:=vu) rfl (b_ (QQ hos hds (x:=.none) rfl (j_ ?_)))))));refine b_ (slicePart_none ?_);show q_ _ _ (if ((1:Int)==0)=true then _ else _) _ _ s;rw[if_neg (by decide)];refine b_ (FJ pl (b_ (FJ pu (b_ (j_ ?_)))));show q_ _ _ (match Tg lo hi 1 (n:Int)with|(lo,hi)=>pure (lo,(1:Int),Sc lo hi 1)) _ _ s;rw[OQ lo hi n];show q_ _ _ (pure (((sIx n 0 lo:Nat):Int),(1:Int),Sc ((sIx n 0 lo:Nat):Int) ((sIx n n hi:Nat):Int) 1)) _ _ s;rw[Ov];exact j_ h
theorem Nf(xs:Array a_)(i k:Nat):((C_ k).filterMap fun(m:Nat)=>xs[((i:Int)+(m:Int)*1).toNat]?).toArray=((xs.toList.drop i).take k).toArray:=by
 have e:(fun(m:Nat)=>xs[((i:Int)+(m:Int)*1).toNat]?)=fun m=>xs[i+m]?:=by
  funext m;have:((i:Int)+(m:Int)*1).toNat=i+m:=by omega
  rw[this]
 rw[e];have:=pick_run xs i k;rw[List.filterMap_map]at this;have e2:((fun x=>xs[x]?)∘fun x=>i+x)=fun m=>xs[i+m]?:=rfl;rw[e2]at this;rw[this]
theorem eS{t sl:Addr}{items:Array a_}{vl vu:a_}{lo hi:Option Int}{Q:a_->d_->Prop}(ht:WL s.heap t items)(hs:s.heap.IsSliceOf sl vl vu .none)(pl:VW vl lo)(pu:VW vu hi)(hw:¬ (sIx items.size 0 lo=0/\sIx items.size items.size hi=items.size))(h:Q (.ref s.heap.objs.size) { s with heap:=s.heap.push { cls:=.type "tuple",data:=.seq ((items.toList.drop (sIx items.size 0 lo)).take (sIx items.size items.size hi-sIx items.size 0 lo)).toArray } })(hsz:items.size<=sizeLine):q_ (D_ prog w) A (V_ (.ref t) (.ref sl)) Q E s:=by
 have htake:sizeOk (.seq ((items.toList.drop (sIx items.size 0 lo)).take (sIx items.size items.size hi-sIx items.size 0 lo)).toArray):=by show((items.toList.drop (sIx items.size 0 lo)).take (sIx items.size items.size hi-sIx items.size 0 lo)).toArray.size<=sizeLine;rw[o_,QM,QY,So];omega
 have hj:sIx items.size items.size hi<=items.size:=IZ _ _ (r_ _) hi;obtain⟨os,hos,hcs,hds⟩:=id hs;have hTs:s.TypeIs (.ref sl) "slice" := ⟨os,hos,hcs⟩
 unfold V_
 try with_reducible refine Ro ?_
 first|refine b_ (j_ ?_)|skip
 refine b_ (wpAny_sequenceKey ht.typeIs (by decide) ?_);refine b_ (RT (name:=l_ "__getitem__") ht.typeIs RY
  (Su RY ht.typeIs entry_tuple_getitem ?_ (args_tuple_getitem _ _)))
 show q_ _ _ (Xb (.ref t) >>= _) _ _ s;refine b_ (tupleItemsOf_ ht ?_);refine b_ (wpAny_typeOf hTs ?_);rw[if_pos (by decide)];refine b_ (Qj hs pl pu ?_);have hno:¬ ((((sIx items.size 0 lo:Nat):Int)==0&&(1:Int)==1&&(sIx items.size items.size hi-sIx items.size 0 lo)==items.size)=true):=by intro q;rw[J_,J_]at q;have q1:((sIx items.size 0 lo:Nat):Int)=0:=RK q.1.1;have q2:sIx items.size items.size hi-sIx items.size 0 lo=items.size:=RK q.2;exact hw ⟨by omega,by omega⟩
 show q_ _ _ (if (((sIx items.size 0 lo:Nat):Int)==0&&(1:Int)==1&&(sIx items.size items.size hi-sIx items.size 0 lo)==items.size)=true then _ else _) _ _ s;rw[if_neg hno,Nf]
 first
  |exact b_ (m:=Sk _) (Rx (j_ ⟨_,rfl,j_ h⟩) htake)
  |exact b_ (m:=Sk _) (Rx (b_ (j_ (j_ ⟨_,rfl,j_ h⟩))) htake)
  |exact b_ (b_ (m:=Sk _) (Rx (j_ (j_ ⟨_,rfl,j_ h⟩)) htake))
  |exact b_ (b_ (m:=Sk _) (Rx (j_ ⟨_,rfl,j_ h⟩) htake))
end
end HT
namespace L2
open PySem PySem.Spec PyProof.Rows
abbrev TO:=St->Hp->(Option Int->Hp->Prop)->Prop
def PO(X:Cx)(e:Option Expr)(t:TO):Prop:=∀(pz:List (Addr×Obj))(s:d_)(σ:St)(H:Hp)(Q:Option Int->Hp->Prop),Inv X pz σ H s->t σ H Q ->q_ (D_ X.prog X.w) X.A (evalPart e X.env) (fun u s'=>∃o H',Inv X pz σ H' s'/\VW u o/\Q o H') X.xe s
def LA:TO:=fun _ H Q=>Q none H
def IA(t:TE):TO:=fun σ H Q=>t σ H fun x H1=>∃i,x=.int i/\Q (some i) H1
theorem OV{ns:List Int}:∀{us:List a_},aU (ns.map V.int) us->Tq us ns:=by induction ns with
|nil=>intro us r;rw[R3]at r;cases r;exact .nil
|cons n ns ih=>intro us r;rw[QE]at r;cases r with
 |cons r1 r2=>obtain⟨t,e⟩:=r1;subst e;exact .cons n t (ih r2)
section
variable{X:Cx}{e:Expr}{te:TE}{lo hi:Option Expr}{tl th:TO}{pos p2:Pos}
theorem Ky:PO X none LA:=by intro pz s σ H Q I h;rw[evalPart_none];exact j_ ⟨none,H,I,.none,h⟩
theorem Kz(h:PE X e te):PO X (some e) (IA te):=by intro pz s σ H Q I hw;rw[evalPart_some];refine bU (h pz s σ H _ I hw) fun u s1 ⟨x,H1,I1,r1,q1⟩=>?_;obtain⟨i,rfl,q⟩:=q1;obtain⟨t,rfl⟩:=r1;exact⟨some i,H1,I1,.int i t,q⟩
def mw(X:Cx)(r:V->Option Int->Option Int->Hp->VK->Prop):Prop:=∀(pz:List (Addr×Obj))(s:d_)(σ:St)(H:Hp)(x:V)(v vl vu:a_)(lo hi:Option Int)(sl:Addr)(Q:VK),Inv X pz σ H s->aY x v->s.heap.IsSliceOf sl vl vu .none->VW vl lo->VW vu hi->r x lo hi H Q ->∃T id,typeLookup (.type T) "__getitem__" = pure (some (.builtin id))/\s.TypeIs v T/\q_ (D_ X.prog X.w) X.A (V_ v (.ref sl)) (EP X pz σ Q) X.xe s
theorem mw.or{r r':V->Option Int->Option Int->Hp->VK->Prop}(h:mw X r)(h':mw X r'):mw X (fun x lo hi H Q=>r x lo hi H Q\/r' x lo hi H Q):=by
 intro pz s σ H x v vl vu lo hi sl Q I rx hs pl pu q;rcases q with q|q
 .exact h pz s σ H x v vl vu lo hi sl Q I rx hs pl pu q
 .exact h' pz s σ H x v vl vu lo hi sl Q I rx hs pl pu q
def Qp(r:V->Option Int->Option Int->Hp->VK->Prop)(te:TE)(tl th:TO):TE:=fun σ H Q=>te σ H fun x H1=>tl σ H1 fun l H2=>th σ H2 fun u H3=>r x l u H3 Q
theorem Nc{r:V->Option Int->Option Int->Hp->VK->Prop}(hr:mw X r)(he:PE X e te)(hl:PO X lo tl)(hu:PO X hi th):PE X (.Subscript e (.Slice lo hi none p2) pos) (Qp r te tl th):=by intro pz s σ H Q I h;refine Subscript_ (bU (he pz s σ H _ I h) fun v s1 ⟨x,H1,I1,r1,q1⟩=>?_);refine wpAny_Slice (bU (hl pz s1 σ H1 _ I1 q1) fun vl s2 ⟨l,H2,I2,pl,q2⟩=>bU (hu pz s2 σ H2 _ I2 q2) fun vu s3 ⟨u,H3,I3,pu,q3⟩=>?_);rw[evalPart_none];refine j_ ?_;have I4:Inv X pz σ H3 { s3 with heap:=s3.heap.push { cls:=.type "slice",data:=.fields #[vl,vu,.none] } }:=I3.kept (t':=s3.toks) fun b ob q=>e_ _ q;obtain⟨T,id,hT,ht,hg⟩:=hr pz { s3 with heap:=s3.heap.push { cls:=.type "slice",data:=.fields #[vl,vu,.none] } } σ H3 x v vl vu l u s3.heap.objs.size Q I4 r1 (Heap.IsSliceOf.new ..) pl pu q3;show q_ (D_ X.prog X.w) X.A (subscriptTail e (.Slice lo hi none p2) v (.ref s3.heap.objs.size)) (EP X pz σ Q) X.xe { s3 with heap:=s3.heap.push { cls:=.type "slice",data:=.fields #[vl,vu,.none] } };exact tail_any (ops:=[.ref s3.heap.objs.size,v]) ht hT hg (by with_unfolding_all rfl)
def jj(xs:List V)(lo hi:Option Int):List V:=(xs.drop (HT.sIx xs.length 0 lo)).take (HT.sIx xs.length xs.length hi-HT.sIx xs.length 0 lo)
theorem FR(xs:List V)(lo hi:Option Int):(jj xs lo hi).length<=xs.length:=by unfold jj;rw[QM,QY];omega
def Bk(K:W.Frag):V->Option Int->Option Int->Hp->VK->Prop:=fun x lo hi H Q=>∃a xs,x=.ref a/\dQ K H a xs /\¬ (HT.sIx xs.length 0 lo=0/\HT.sIx xs.length xs.length hi=xs.length)/\∀p,H p=none->Q (.ref p) (upd H p (.tup (jj xs lo hi)))
theorem J2:mw X (Bk X.K):=by
 intro pz s σ H x v vl vu lo hi sl Q I rx hs pl pu h;obtain⟨a,xs,rfl,hx,hw,q⟩:=h;cases rx;obtain⟨its,r,ht,hz⟩:=I.tuple hx;have hlen:its.toArray.size=xs.length:=by rw[o_];exact r.length.symm
 refine⟨"tuple",_,RY.lookup,ht.typeIs,?_⟩;refine HT.eS ht hs pl pu (by rw[hlen];exact hw) ?_ (by rw[hlen];exact hz);rw[hlen];refine⟨.ref s.heap.objs.size,_,I.laid (t':=s.toks) (o:=.tup (jj xs lo hi)) (fun b ob q=>e_ _ q) (r_ _) ?_,rfl,q _ (I.hok.fresh (r_ _))⟩;exact⟨QI (FR xs lo hi) hz,_,(r.drop (HT.sIx xs.length 0 lo)).take (HT.sIx xs.length xs.length hi-HT.sIx xs.length 0 lo),X8 _ _,_,x_ _ rfl,rfl⟩
def vY(K:W.Frag):R2:=fun x y H Q=>∃a b xs ys,x=.ref a/\y=.ref b/\dQ K H a xs/\dQ K H b ys/\xs≠[]/\xs.length+ys.length<=sizeLine /\(ys=[]->Q (.ref a) H)/\(ys≠[]->∀p,H p=none->Q (.ref p) (upd H p (.tup (xs++ys))))
theorem aU.nil_iff{xs:List V}{us:List a_}(r:aU xs us):us=[]↔xs=[]:=by cases r with
|nil=>simp
|cons _ _=>simp
theorem DP:cV X (Ss .Add) (vY X.K):=by intro pz s σ H x y v u Q I rx ry h;obtain⟨a,b,xs,ys,rfl,rfl,ha,hb,hx,hz,q1,q2⟩:=h;cases rx;cases ry;obtain⟨its,r1,p1,_⟩:=I.tuple ha;obtain⟨its2,r2,p2,_⟩:=I.tuple hb;refine HT.lF p1 p2 (fun z=>hx (r1.nil_iff.mp z)) (fun z=>⟨.ref a,H,I,rfl,q1 (r2.nil_iff.mp z)⟩) (fun z=>?_) (by rw[<-r1.length,<-r2.length];exact hz);refine⟨.ref s.heap.objs.size,_,I.laid (t':=s.toks) (o:=.tup (xs++ys)) (fun b ob q=>e_ _ q) (r_ _) ?_,rfl,q2 (fun w=>z (r2.nil_iff.mpr w)) _ (I.hok.fresh (r_ _))⟩;exact⟨by rw[L_];exact hz,_,r1.append r2,X8 _ _,_,x_ _ rfl,rfl⟩
end
def iL(n:Nat)(i:Int):Option Nat:=if 0<=i then(if i<n then some i.toNat else none)else if-(n:Int)<=i then some (i+n).toNat else none
def gJ{α:Type}(xs:List α)(i:Int):Option α:=(iL xs.length i).bind fun j=>xs[j]?
theorem Di{n:Nat}{i:Int}{j:Nat}(h:iL n i=some j):seqIndex? i n=some j/\j<n/\-(n:Int)<=i/\i<n:=by
 unfold iL at h;by_cases h0:0<=i
 .rw[if_pos h0]at h;by_cases h1:i<n
  .rw[if_pos h1]at h;have e:i.toNat=j:=z_ h;exact⟨by rw[WP h0 h1,e],by omega,by omega,h1⟩
  .rw[if_neg h1]at h;cases h
 .rw[if_neg h0]at h;by_cases h1 : -(n:Int)<=i
  .rw[if_pos h1]at h;have e:(i+n).toNat=j:=z_ h;exact⟨by rw[seqIndex_neg (by omega) h1,e],by omega,h1,by omega⟩
  .rw[if_neg h1]at h;cases h
theorem xJ{α:Type}{xs:List α}{i:Int}{v:α}(h:gJ xs i=some v):∃j,seqIndex? i xs.length=some j/\xs[j]? = some v/\j<xs.length/\-(xs.length:Int)<=i/\i<xs.length:=by unfold gJ at h;cases e:iL xs.length i with
|none=>rw[e]at h;cases h
|some j=>rw[e]at h;obtain⟨h1,h2,h3,h4⟩:=Di e;exact⟨j,h1,h,h2,h3,h4⟩
def xI(b:Expr):Prop:=∀o i,subscripted b false o i=operate [o,i] (V_ o i)
def j3(X:Cx)(r:R2):Prop:=∀(value slice:Expr)(pz:List (Addr×Obj))(s:d_)(σ:St)(H:Hp)(x y:V)(v u:a_)(Q:VK),Inv X pz σ H s->aY x v->aY y u->r x y H Q ->subscripted slice false v u=operate [v,u] (V_ v u)->q_ (D_ X.prog X.w) X.A (subscriptTail value slice v u) (EP X pz σ Q) X.xe s
def my(X:Cx)(id:String)(r:V->List V->Hp->VK->Prop):Prop:=∀(pz:List (Addr×Obj))(s:d_)(σ:St)(H:Hp)(x:V)(xs:List V)(v:a_)(us:List a_)(Q:VK),Inv X pz σ H s->aY x v->aU xs us->r x xs H Q ->q_ (D_ X.prog X.w) X.A (call (.builtin id) (v::us)) (EP X pz σ Q) X.xe s
section
variable{X:Cx}{a b:Expr}{ta tb:TE}{pos:Pos}
theorem j3.or{r r':R2}(h:j3 X r)(h':j3 X r'):j3 X (fun x y H Q=>r x y H Q\/r' x y H Q):=by
 intro value slice pz s σ H x y v u Q I rx ry q hs;rcases q with q|q
 .exact h value slice pz s σ H x y v u Q I rx ry q hs
 .exact h' value slice pz s σ H x y v u Q I rx ry q hs
theorem GT{r:R2}(hr:j3 X r)(ha:PE X a ta)(hb:PE X b tb)(hs:xI b):PE X (.Subscript a b pos) (qR r ta tb):=by intro pz s σ H Q I h;exact Subscript_ (nS ha hb I h fun v u s2 x y H2 I2 rx ry q=>hr a b pz s2 σ H2 x y v u Q I2 rx ry q (hs _ _))
def qZ(K:W.Frag):R2:=fun x y H Q=>∃p xs i v,x=.ref p/\y=.int i/\c7 K H p xs/\gJ xs i=some v/\Q v H
def qX(K:W.Frag):R2:=fun x y H Q=>∃p xs i v,x=.ref p/\y=.int i/\dQ K H p xs/\gJ xs i=some v/\Q v H
def qY:R2:=fun x y H Q=>∃z i c,x=.str z/\y=.int i/\z.length<=sizeLine/\gJ z.cps.toList i=some c/\Q (.str ⟨#[c]⟩) H
theorem KN:j3 X (qZ X.K):=by
 intro value slice pz s σ H x y v u Q I rx ry h hs;obtain⟨p,xs,i,z,rfl,rfl,hq,he,q⟩:=h;cases rx;obtain⟨t,rfl⟩:=ry;obtain⟨its,r,pl,hz⟩:=I.list hq;obtain⟨j,h1,h2,h3,h4,h5⟩:=xJ he;obtain⟨w,ew,rw'⟩:=r.get h2;have hl:=r.length;have hn:=oq;have fin:EP X pz σ Q w s:=⟨z,H,I,rw',q⟩
 by_cases h0:0<=i
 .have hj:i.toNat=j:=by rw[WP h0 h5]at h1;exact z_ h1
  exact item_listR pl.isList h0 (by omega) (by rw[hj];simpa using ew) fin hs
 .have hj:(i+(its.toArray.size:Int)).toNat=j:=by rw[seqIndex_neg (by omega) h4]at h1;rw[o_,<-hl];exact z_ h1
  exact U_ (x:=w) pl.isList.typeIs Wa.lookup
   (wpAny_getItem_list_neg (Q:=fun r s'=>r=w/\EP X pz σ Q r s') pl.isList (by omega) (by rw[o_] <;> omega) (by omega) (by rw[hj];simpa using ew) ⟨rfl,fin⟩) hs
theorem HU:j3 X (qX X.K):=by
 intro value slice pz s σ H x y v u Q I rx ry h hs;obtain⟨p,xs,i,z,rfl,rfl,hq,he,q⟩:=h;cases rx;obtain⟨t,rfl⟩:=ry;obtain⟨its,r,pl,hz⟩:=I.tuple hq;obtain⟨j,h1,h2,h3,h4,h5⟩:=xJ he;obtain⟨w,ew,rw'⟩:=r.get h2;have hl:=r.length;have hn:=oq;have fin:EP X pz σ Q w s:=⟨z,H,I,rw',q⟩
 exact U_ (x:=w) pl.typeIs RY.lookup
  (getItem_tuple (j:=j) (Q:=fun r s'=>r=w/\EP X pz σ Q r s') pl (by omega) (by omega) (by rw[o_,<-hl];exact h1) (by simpa using ew) ⟨rfl,fin⟩) hs
theorem HS:j3 X qY:=by
 intro value slice pz s σ H x y v u Q I rx ry h hs;obtain⟨z,i,c,rfl,rfl,hz,he,q⟩:=h;obtain⟨t,rfl⟩:=rx;obtain⟨t',rfl⟩:=ry;obtain⟨j,h1,h2,h3,h4,h5⟩:=xJ he;have hl:z.cps.toList.length=z.length:=by simp[Str.length]
 rw[hl]at h1 h4 h5;have hn:=oq;exact tail_any (typeIs_str s z t) slot_str_getitem.lookup (getItem_str (c:=c) (by have e1:decide (i < -(2^63:Int))=false:=decide_eq_false (by omega);have e2:decide (i>=2^63)=false:=decide_eq_false (by omega);rw[e1,e2,Bool.or_false]) (by rw[h1];simpa using h2) ⟨.str ⟨#[c]⟩,H,I.tok _,⟨_,rfl⟩,q⟩) hs
def Bn(K:W.Frag):R2:=fun x y H Q=>qZ K x y H Q\/qX K x y H Q\/qY x y H Q
theorem HR:j3 X (Bn X.K):=KN.or (HU.or HS)
theorem O1(its:List a_)(n j:Nat)(u:a_):SK (·.setIfInBounds j u) { cls:=.type "list",data:=.seq its.toArray n }={ cls:=.type "list",data:=.seq (its.set j u).toArray n }:=by simp[SK]
theorem Inv.lst{pz:List (Addr×Obj)}{σ:St}{H:Hp}{s:d_}{p:Addr}{xs:List V}(I:Inv X pz σ H s)(h:H p=some (.lst xs)):∃(its:List a_)(n:Nat),aU xs its/\s.heap.get? p=some { cls:=.type "list",data:=.seq its.toArray n }/\xs.length<=sizeLine:=by obtain⟨z,its,n,r,e⟩:=I.hok p _ h;exact⟨its,n,r,e,z⟩
theorem Inv.lstUpd{pz:List (Addr×Obj)}{σ:St}{H:Hp}{s:d_}{p:Addr}{xs ys:List V}{its its':List a_}{n n':Nat}{f:Obj->Obj}(I:Inv X pz σ H s)(h:H p=some (.lst xs))(ho:s.heap.get? p=some { cls:=.type "list",data:=.seq its.toArray n })(hf:f { cls:=.type "list",data:=.seq its.toArray n }={ cls:=.type "list",data:=.seq its'.toArray n' })(r:aU ys its')(hz:ys.length<=sizeLine)(t:Nat):Inv X pz σ (upd H p (.lst ys)) { s with heap:=s.heap.update p f,toks:=t }:=by
 have e:(s.heap.update p f).get? p=some { cls:=.type "list",data:=.seq its'.toArray n' }:=by rw[Q4 f ho (by rw[hf] <;> rfl),hf]
 refine I.write (x:=p) (e:=p) (by rw[h];trivial) (.inl rfl) (fun b u hb q=>(Va _ _ (Sn hb)).trans q) ⟨_,e⟩ ?_;exact⟨hz,its',n',r,e⟩
def B4:V->V->V->Hp->(Hp->Prop)->Prop:=fun o i v H Q=>∃p xs k j,o=.ref p/\i=.int k/\H p=some (.lst xs)/\iL xs.length k=some j/\Q (upd H p (.lst (xs.set j v)))
theorem MM:ij X B4:=by
 intro pz s σ H o i v ov iv u Q I ro ri rv h;obtain⟨p,xs,k,j,rfl,rfl,hp,hj,q⟩:=h;cases ro;obtain⟨t,rfl⟩:=ri;obtain⟨its,n,r,ho,hz⟩:=I.lst hp;obtain⟨h1,h2,h3,h4⟩:=Di hj;have hl:=r.length;have hn:=oq;have I':Inv X pz σ (upd H p (.lst (xs.set j v))) { s with heap:=s.heap.update p (SK (·.setIfInBounds j u)) }:=I.lstUpd hp ho (O1 its n j u) (r.set rv j) (by rw[SN];exact hz) s.toks;by_cases h0:0<=k
 .have hk:k.toNat=j:=by rw[WP h0 h4]at h1;exact z_ h1
  exact W.ki_setAt ho h0 (by omega) (by rw[o_,<-hl];exact h4) (by rw[hk];exact⟨_,I',q⟩)
 .have hk:(k+(its.toArray.size:Int)).toNat=j:=by rw[seqIndex_neg (by omega) h3]at h1;rw[o_,<-hl];exact z_ h1
  exact W.ki_setBack ho (by omega) (by rw[o_,<-hl];exact h3) (by omega) (by rw[hk];exact⟨_,I',q⟩)
theorem PF(lo hi:Option Int)(n:Nat):(Tz lo hi none n).1=((HT.sIx n 0 lo:Nat):Int)/\(Tz lo hi none n).2.1=((HT.sIx n n hi:Nat):Int)/\(Tz lo hi none n).2.2=1:=by
 refine⟨?_,?_,rfl⟩
 .cases lo with
 |none=>simp[Tz,HT.sIx]
 |some i=>
   simp only[Tz,HT.sIx,UZ,show(1:Int)>0 by decide,if_true];by_cases h:i<0
   .simp only[h,if_true] <;> omega
   .simp only[h,if_false] <;> omega
 .cases hi with
 |none=>simp[Tz,HT.sIx]
 |some i=>
   simp only[Tz,HT.sIx,UZ,show(1:Int)>0 by decide,if_true];by_cases h:i<0
   .simp only[h,if_true] <;> omega
   .simp only[h,if_false] <;> omega
theorem Qa(its:List a_)(lo hi:Option Int):slicePick its.toArray lo hi none=((its.drop (HT.sIx its.length 0 lo)).take (HT.sIx its.length its.length hi-HT.sIx its.length 0 lo)).toArray:=by obtain⟨h1,h2,h3⟩:=PF lo hi its.toArray.size;unfold slicePick;rw[h1,h2,h3];simp only[sliceRange_one,pick_run,o_] <;> rfl
def Bl(K:W.Frag):V->Option Int->Option Int->Hp->VK->Prop:=fun x lo hi H Q=>∃a xs,x=.ref a/\c7 K H a xs/\∀p,H p=none->Q (.ref p) (upd H p (.lst (jj xs lo hi)))
theorem Ly:mw X (Bl X.K):=by intro pz s σ H x v vl vu lo hi sl Q I rx hs pl pu h;obtain⟨a,xs,rfl,hx,q⟩:=h;cases rx;obtain⟨its,r,ht,hz⟩:=I.list hx;have hlen:=r.length;refine⟨"list",_,Wa.lookup,ht.isList.typeIs,?_⟩;refine wpAny_getItem_list_slice ht.isList hs pl pu .none (by simp) ?_ (by rw[o_] <;> omega);rw[Qa,<-hlen];refine⟨.ref s.heap.objs.size,_,I.laid (t':=s.toks) (o:=.lst (jj xs lo hi)) (fun b ob q=>e_ _ q) (r_ _) ?_,rfl,q _ (I.hok.fresh (r_ _))⟩;exact⟨QI (FR xs lo hi) hz,_,0,(r.drop (HT.sIx xs.length 0 lo)).take (HT.sIx xs.length xs.length hi-HT.sIx xs.length 0 lo),x_ _ rfl⟩
def iy:V->Bool
|.non=>true
|.bl _=>true
|.int _=>true
|.str _=>true
|_=>false
def jh:V->V->Bool
|.non,.non=>true
|.bl a,.bl b=>a==b
|.bl a,.int b=>(if a then 1 else 0)==b
|.int a,.bl b=>a==(if b then 1 else 0)
|.int a,.int b=>a==b
|.str a,.str b=>a==b
|_,_=>false
theorem Io{A:K_}{s:d_}{y x:V}{u v:a_}(ry:aY y u)(rx:aY x v)(fy:iy y=true)(fx:iy x=true):VU A s u v (jh y x):=by cases y with
|non=>cases ry;cases x with
 |non=>cases rx;exact WT _
 |bl b=>cases rx;exact SeqAt.EqAt.none_bool b
 |int b=>obtain⟨t,rfl⟩:=rx;exact SeqAt.EqAt.none_int b t
 |str b=>obtain⟨t,rfl⟩:=rx;exact SeqAt.EqAt.none_str b t
 |_=>exact absurd (show false=true from fx) i_
|bl a=>cases ry;cases x with
 |non=>cases rx;exact SeqAt.EqAt.bool_none a
 |bl b=>cases rx;exact SeqAt.EqAt.bool_bool a b
 |int b=>obtain⟨t,rfl⟩:=rx;exact SeqAt.EqAt.bool_int a b t
 |str b=>obtain⟨t,rfl⟩:=rx;exact SeqAt.EqAt.bool_str a b t
 |_=>exact absurd (show false=true from fx) i_
|int a=>obtain⟨t',rfl⟩:=ry;cases x with
 |non=>cases rx;exact SeqAt.EqAt.int_none a t'
 |bl b=>cases rx;exact SeqAt.EqAt.int_bool a t' b
 |int b=>obtain⟨t,rfl⟩:=rx;exact Uy a t' b t
 |str b=>obtain⟨t,rfl⟩:=rx;exact VR a t' b t
 |_=>exact absurd (show false=true from fx) i_
|str a=>obtain⟨t',rfl⟩:=ry;cases x with
 |non=>cases rx;exact SeqAt.EqAt.str_none a t'
 |bl b=>cases rx;exact SeqAt.EqAt.str_bool a t' b
 |int b=>obtain⟨t,rfl⟩:=rx;exact VS a t' b t
 |str b=>obtain⟨t,rfl⟩:=rx;exact SeqAt.EqAt.str_str a t' b t
 |_=>exact absurd (show false=true from fx) i_
|_=>exact absurd (show false=true from fy) i_
def gI(x:V)(u:a_):Bool:=match u with
|.none=>jh .non x
|.bool b=>jh (.bl b) x
|.int i _=>jh (.int i) x
|.str z _=>jh (.str z) x
|_=>false
theorem sC{x y:V}{u:a_}(r:aY y u)(f:iy y=true):gI x u=jh y x:=by cases y with
|non=>cases r;rfl
|bl b=>cases r;rfl
|int i=>obtain⟨t,rfl⟩:=r;rfl
|str z=>obtain⟨t,rfl⟩:=r;rfl
|_=>exact absurd (show false=true from f) i_
theorem pZ{x:V}:∀{xs:List V}{us:List a_},aU xs us->xs.all iy=true->us.any (gI x)=xs.any fun y=>jh y x
|_,_,.nil,_=>rfl
|y::xs,u::us,.cons r t,f=>by rw[T6,J_]at f;rw[SV,SV,sC r f.1,pZ t f.2]
theorem oY{A:K_}{s:d_}{x:V}{v:a_}(rx:aY x v)(fx:iy x=true):∀{xs:List V}{us:List a_},aU xs us->xs.all iy=true->∀u∈us,VU A s u v (gI x u)
|_,_,.nil,_=>fun u hu=>by cases hu
|y::xs,u::us,.cons r t,f=>fun u' hu=>by
  rw[T6,J_]at f;rcases w_.mp hu with rfl|hu
  .rw[sC r f.1];exact Io r rx f.1 fx
  .exact oY rx fx t f.2 u' hu
def vQ(x:V)(xs:List V):Bool:=xs.any fun y=>jh y x
def Bo(K:W.Frag)(neg:Bool):R2:=fun x y H Q=>∃p xs,y=.ref p/\(c7 K H p xs\/dQ K H p xs)/\iy x=true/\xs.all iy=true/\Q (.bl (if neg then ! vQ x xs else vQ x xs)) H
theorem Oi:cV X (QG .In) (Bo X.K false):=by
 intro pz s σ H x y v u Q I rx ry h;obtain⟨p,xs,rfl,hq,fx,fs,q⟩:=h;cases ry;rcases hq with hq|hq
 .obtain⟨its,r,pl,hz⟩:=I.list hq;refine SeqAt.in_listAt (gI x) pl.isList (fun w hw=>oY rx fx r fs w (by simpa using hw)) ⟨.bl _,H,I,rfl,?_⟩;rw[show its.toArray.any (gI x)=its.any (gI x)by simp,pZ r fs];exact q
 .obtain⟨its,r,pl,hz⟩:=I.tuple hq;refine SeqAt.in_tupleAt (gI x) pl (fun w hw=>oY rx fx r fs w (by simpa using hw)) ⟨.bl _,H,I,rfl,?_⟩;rw[show its.toArray.any (gI x)=its.any (gI x)by simp,pZ r fs];exact q
theorem PM:cV X (QG .NotIn) (Bo X.K true):=by
 intro pz s σ H x y v u Q I rx ry h;obtain⟨p,xs,rfl,hq,fx,fs,q⟩:=h;cases ry;rcases hq with hq|hq
 .obtain⟨its,r,pl,hz⟩:=I.list hq;refine SeqAt.notIn_listAt (gI x) pl.isList (fun w hw=>oY rx fx r fs w (by simpa using hw)) ⟨.bl _,H,I,rfl,?_⟩;rw[show its.toArray.any (gI x)=its.any (gI x)by simp,pZ r fs];exact q
 .obtain⟨its,r,pl,hz⟩:=I.tuple hq;refine SeqAt.notIn_tupleAt (gI x) pl (fun w hw=>oY rx fx r fs w (by simpa using hw)) ⟨.bl _,H,I,rfl,?_⟩;rw[show its.toArray.any (gI x)=its.any (gI x)by simp,pZ r fs];exact q
theorem PN:cV X (QG .NotIn) (fun x y H Q=>∃i j,x=.str i/\y=.str j/\Q (.bl (!(!(RS j i 0 j.length 1).isEmpty))) H):=by intro pz s σ H x y v u Q I rx ry h;obtain⟨i,j,rfl,rfl,q⟩:=h;obtain⟨t,rfl⟩:=rx;obtain⟨t',rfl⟩:=ry;exact notIn_str ⟨.bl _,H,I,rfl,q⟩
theorem gF.or{f:a_}{r r':List V->Hp->VK->Prop}(h:gF X f r)(h':gF X f r'):gF X f (fun xs H Q=>r xs H Q\/r' xs H Q):=by
 intro pz s σ H xs us Q I rs q;rcases q with q|q
 .exact h pz s σ H xs us Q I rs q
 .exact h' pz s σ H xs us Q I rs q
theorem Pd:gF X (.type "list") (fun xs H Q=>∃p ys,xs=[.ref p]/\(c7 X.K H p ys\/dQ X.K H p ys)/\∀l,H l=none->Q (.ref l) (upd H l (.lst ys))):=by
 intro pz s σ H xs us Q I r h;obtain⟨p,ys,rfl,hq,q⟩:=h;obtain⟨u,rfl,rx⟩:=jG r;cases rx;have fin:∀(its:List a_),aU ys its->ys.length<=sizeLine->∀(h':Heap)(c':Nat),(∀b o',s.heap.get? b=some o'->h'.get? b=some o') ->h'.get? s.heap.objs.size=some { cls:=.type "list",dict:=none,data:=.seq its.toArray c',slots:=#[] }->EP X pz σ Q (.ref s.heap.objs.size) { s with heap:=h' }:=fun its r' hz h' c' kp e=>⟨.ref s.heap.objs.size,_,I.laid (t':=s.toks) kp (r_ _) (show dz X.prog X.w _ h' _ (.lst ys)from⟨hz,its,c',r',e⟩),rfl,q _ (I.hok.fresh (r_ _))⟩
 rcases hq with hq|hq
 .obtain⟨its,r',pl,hz⟩:=I.list hq;have hlen:=r'.length;obtain⟨o,ho,hc,n,hd⟩:=pl.isList;exact call_list_seq p (.inl rfl) ho hc hd (fun h' c' kp e=>fin its r' hz h' c' kp e) (by simp only[o_] <;> omega)
 .obtain⟨its,r',pl,hz⟩:=I.tuple hq;have hlen:=r'.length;obtain⟨o,ho,hc,n,hd⟩:=pl;exact call_list_seq p (.inr rfl) ho hc hd (fun h' c' kp e=>fin its r' hz h' c' kp e) (by simp only[o_] <;> omega)
theorem Pt:gF X (.type "tuple") (fun xs H Q=>∃p ys,xs=[.ref p]/\((c7 X.K H p ys/\∀l,H l=none->Q (.ref l) (upd H l (.tup ys)))\/(dQ X.K H p ys/\Q (.ref p) H))):=by
 intro pz s σ H xs us Q I r h;obtain⟨p,ys,rfl,h⟩:=h;obtain⟨u,rfl,rx⟩:=jG r;cases rx;rcases h with⟨hq,q⟩|⟨hq,q⟩
 .obtain⟨its,r',pl,hz⟩:=I.list hq;have hlen:=r'.length;refine call_tuple_list pl.isList (fun h' kp=>?_) (by simp only[o_] <;> omega);have I1:Inv X pz σ H { s with heap:=h' }:=I.kept (t':=s.toks) kp;have I2:Inv X pz σ (upd H h'.objs.size (.tup ys)) { s with heap:=h'.push { cls:=.type "tuple",data:=.seq its.toArray } }:=I1.laid (t':=s.toks) (fun b o e=>e_ _ e) (r_ _) (show dz X.prog X.w _ _ _ (.tup ys)from⟨hz,its,r',X8 _ _,_,x_ _ rfl,rfl⟩);exact⟨.ref h'.objs.size,_,I2,rfl,q _ (I1.hok.fresh (r_ _))⟩
 .obtain⟨its,r',pl,hz⟩:=I.tuple hq;exact call_tuple_same pl ⟨.ref p,H,I,rfl,q⟩
def pB(K:W.Frag)(T:String)(x:V)(H:Hp):Prop:=match x with
|.str _=>T = "str"
|.int _=>T = "int"
| .ref p=>(T = "list"/\∃xs,c7 K H p xs)\/(T = "tuple"/\((∃o,K.lookup p=some o/\o.cls=.type "tuple"/\o.dict=none)\/∃xs,Rd H p (.tup xs))) \/
   (T = "dict"/\((∃kvs,Rd H p (.dK kvs))\/∃kvs,H p=some (.dT kvs)))\/(T = "set"/\∃S n,H p=some (.set S n))
|_=>False
theorem CT{pz:List (Addr×Obj)}{σ:St}{H:Hp}{s:d_}{T:String}{x:V}{v:a_}(I:Inv X pz σ H s)(r:aY x v)(ty:pB X.K T x H):s.TypeIs v T/\∀a,v=.ref a->∃ob,s.heap.get? a=some ob/\ob.dict=none:=by cases x with
|str z=>obtain⟨t,rfl⟩:=r;cases(show T = "str" from ty);exact⟨typeIs_str s z t,fun _ e=>nomatch e⟩
|int i=>obtain⟨t,rfl⟩:=r;cases(show T = "int" from ty);exact⟨Xc s i t,fun _ e=>nomatch e⟩
|ref p=>
  cases r;rcases ty with⟨rfl,xs,hq⟩|⟨rfl,⟨o,hk,hc,hd⟩|⟨xs,hq⟩⟩|⟨rfl,hk⟩|⟨rfl,S,n,hk⟩
  .obtain⟨its,_,pl,_⟩:=I.list hq;refine⟨pl.isList.typeIs,fun a e=>?_⟩;cases e;obtain⟨o,n,e,c,hd,_⟩:=pl;exact⟨o,e,hd⟩
  .refine⟨⟨o,I.kIn p o hk,hc⟩,fun a e=>?_⟩;cases e;exact⟨o,I.kIn _ o hk,hd⟩
  .obtain⟨_,its,_,⟨o,ho,hc,_⟩,o2,ho2,hd2⟩:=hq.ok I.hok;refine⟨⟨o,ho,hc⟩,fun a e=>?_⟩;cases e;exact⟨o2,ho2,hd2⟩
  .have z:∃o,s.heap.get? p=some o/\o.ExactDict:=by
    rcases hk with⟨kvs,hk⟩|⟨kvs,hk⟩
    .obtain⟨_,_,_,_,o,_,_,e,ex,_⟩:=(show dz X.prog X.w H s.heap p (.dK kvs)from hk.ok I.hok)
     exact⟨o,e,ex⟩
    .obtain⟨_,_,_,_,o,_,_,e,ex,_⟩:=I.hok p _ hk;exact⟨o,e,ex⟩
   obtain⟨o,e,ex⟩:=z;refine⟨⟨o,e,ex.1⟩,fun a e2=>?_⟩;cases e2;exact⟨o,e,ex.2.1⟩
  .obtain⟨o,_,_,_,e,ex,_⟩:=I.hok p _ hk;refine⟨⟨o,e,ex.1⟩,fun a e2=>?_⟩;cases e2;exact⟨o,e,ex.2.1⟩
|_=>exact QF ty
def Bh(K:W.Frag)(T:String)(r:V->List V->Hp->VK->Prop)(to:TE):TE:=fun σ H Q=>to σ H fun x H1=>pB K T x H1/\r x [] H1 Q
def Qx(K:W.Frag)(T:String)(r:V->List V->Hp->VK->Prop)(to:TE)(t:TA):TE:=fun σ H Q=>to σ H fun x H1=>pB K T x H1/\t σ H1 fun xs H2=>r x xs H2 Q
variable{o e:Expr}{es:List Expr}{to:TE}{t:TA}{name:Str}{apos cpos:Pos}{T id:String}{r:V->List V->Hp->VK->Prop}
theorem Jm(pa:VX T)(slot:Slot T name id)(hty:Wu (.builtin id)=pure (.type "method_descriptor"))(hm:my X id r)(ho:PE X o to)(hbase:RN o name X.env (eval o X.env)=eval o X.env:=by rfl)(hline:(apos.endLine==cpos.line)=true:=by rfl):PE X (.Call (.Attribute o name apos) [] [] cpos) (Bh X.K T r to):=by intro pz s σ H Q I h;refine wpAny_Call_method0_late hbase hline (bU (ho pz s σ H _ I h) fun v s1 ⟨x,H1,I1,r1,ty,q1⟩=>?_);obtain⟨h1,h2⟩:=CT I1 r1 ty;exact⟨T,id,pa,slot,hty,h1,h2,TJ rfl (PySem.evalArgs_none (hm pz s1 σ H1 x [] v [] Q I1 r1 .nil q1))⟩
theorem Cc(pa:VX T)(slot:Slot T name id)(hty:Wu (.builtin id)=pure (.type "method_descriptor"))(hm:my X id r)(ho:PE X o to)(ha:PA X (e::es) t)(hbase:RN o name X.env (eval o X.env)=eval o X.env:=by rfl)(hfew:((backTo cpos (h_ (e::es) X.env)).all (fun x=>! x.1)&&(Vr cpos (T9 [] X.env)).all (fun x=>x.1.isSome)
   && decide ((e::es).length+([]:List T5).length+(if ([]:List T5).isEmpty then 0 else 1)<30))=true:=by rfl)(hline:(apos.endLine==cpos.line)=true:=by rfl)(hs:h_ (e::es) X.env=(false,eval e X.env)::h_ es X.env:=by rfl)(hplain:(backTo cpos (h_ es X.env)).any (·.1)=false:=by rfl):PE X (.Call (.Attribute o name apos) (e::es) [] cpos) (Qx X.K T r to t):=by intro pz s σ H Q I h;refine wpAny_Call_method_late hbase hfew hline rfl (bU (ho pz s σ H _ I h) fun v s1 ⟨x,H1,I1,r1,ty,q1⟩=>?_);obtain⟨h1,h2⟩:=CT I1 r1 ty;refine⟨T,id,pa,slot,hty,h1,h2,?_⟩;have hA:=ha cpos pz s1 σ H1 _ I1 q1;rw[hs]at hA ⊢;refine TJ (by show(false || (backTo cpos (h_ es X.env)).any (·.1))=false;rw[hplain] <;> rfl) (Vs ?_);exact bU hA fun us s2 ⟨vs,H2,I2,r2,q2⟩=>hm pz s2 σ H2 x vs v us Q I2 r1 r2 q2
end
def QB(X:Cx)(id:String)(r:V->List V->Hp->VK->Prop):Prop:=∀(pz:List (Addr×Obj))(s:d_)(σ:St)(H:Hp)(x:V)(xs:List V)(v:a_)(us:List a_)(Q:VK),Inv X pz σ H s->aY x v->aU xs us->r x xs H Q ->q_ (D_ X.prog X.w) X.A (call (.builtin id) (v::us)) (EP X pz σ Q) X.xe s
theorem aU.one{x:V}{us:List a_}(h:aU [x] us):∃u,us=[u]/\aY x u:=by cases h with
|cons r t=>cases t;exact⟨_,rfl,r⟩
theorem aU.rep{xs:List V}{us:List a_}(h:aU xs us):∀k:Nat,aU (y_ k xs).flatten (y_ k us).flatten
|0=>.nil
|k+1=>by rw[Rc,Rc,Rm,Rm];exact aU.append h (aU.rep h k)
theorem EW(its:List a_):∀(k:Nat)(acc:List a_),Xd (fun x1 x2=>x1++x2) acc.toArray (y_ k its.toArray)=(acc++(y_ k its).flatten).toArray
|0,acc=>by simp
|k+1,acc=>by
  have e:acc.toArray++its.toArray=(acc++its).toArray:=by simp
  have e2:(acc++its)++(y_ k its).flatten=acc++(y_ (k+1) its).flatten:=by rw[Rc,Rm,Ry]
  rw[<-e2,<-EW its k (acc++its),<-e,Rc,WU]
section
variable{X:Cx}{pz:List (Addr×Obj)}{σ:St}{H:Hp}{s:d_}{l b:Addr}{xs ys zs:List V}
theorem Inv.lset{its its':List a_}{n:Nat}{f:Array a_->Array a_}{t':Nat}(I:Inv X pz σ H s)(hH:H l=some (.lst xs))(e:s.heap.get? l=some { cls:=.type "list",data:=.seq its.toArray n })(hf:f its.toArray=its'.toArray)(hv:aU ys its')(hz:ys.length<=sizeLine):Inv X pz σ (upd H l (.lst ys)) { s with heap:=s.heap.update l (SK f),toks:=t' }:=by have q:=PySem.IsL.update e f;rw[hf]at q;refine I.write (x:=l) (e:=l) (by rw[hH];exact trivial) (.inl rfl) (fun b' u hb hu=>(Va s.heap (SK f) (Sn hb)).trans hu) ⟨_,q⟩ ?_;exact⟨hz,its',_,hv,q⟩
theorem Inv.lnew{its:List a_}{t':Nat}(I:Inv X pz σ H s)(hv:aU ys its)(hz:ys.length<=sizeLine):Inv X pz σ (upd H s.heap.objs.size (.lst ys)) { s with heap:=s.heap.push { cls:=.type "list",data:=.seq its.toArray },toks:=t' }:=I.laid (fun _ _ q=>e_ _ q) (r_ _) ⟨hz,its,0,hv,x_ _ rfl⟩
theorem Inv.fresh(I:Inv X pz σ H s):H s.heap.objs.size=none:=I.hok.fresh (r_ _)
theorem Inv.lstM(I:Inv X pz σ H s)(hH:H l=some (.lst xs)):xs.length<=sizeLine/\∃(its:List a_)(n:Nat),aU xs its/\xs.length=its.length/\s.heap.get? l=some { cls:=.type "list",data:=.seq its.toArray n }:=by obtain⟨z,its,n,r,e⟩:=I.hok l _ hH;exact⟨z,its,n,r,r.length,e⟩
theorem MV{n:Nat}(h:n<=sizeLine):Tn n=false:=by unfold Tn;exact decide_eq_false (by omega)
end
section
variable{X:Cx}
def Dy:V->List V->Hp->VK->Prop:=fun x vs H Q=>∃l xs y,x=.ref l/\vs=[y]/\H l=some (.lst xs)/\xs.length<sizeLine/\Q .non (upd H l (.lst (xs++[y])))
theorem l9:QB X "list.append" Dy:=by intro pz s σ H x vs v us Q I rx rv h;obtain⟨l,xs,y,rfl,rfl,hH,hz,q⟩:=h;cases rx;obtain⟨u,rfl,ru⟩:=rv.one;obtain⟨z,its,n,r,hl,e⟩:=I.lstM hH;refine Vb F.slot_list_append ⟨_,e,rfl⟩ F.entry_list_append (F.args_list_append_2 _ _) (PySem.list_append l its.toArray n u (by rw[o_];omega)) ⟨e,?_⟩;refine⟨.non,_,I.lset (its':=its++[u]) hH e (by simp) (r.append (.cons ru .nil)) ?_,rfl,q⟩;rw[L_,SY];omega
def Bm:R2:=fun x y H Q=>∃l k xs,x=.ref l/\y=.int k/\H l=some (.lst xs)/\-(2^63)<=k/\k<2^63/\xs.length*k.toNat<=sizeLine /\∀p,H p=none->Q (.ref p) (upd H p (.lst (y_ k.toNat xs).flatten))
theorem KQ{α:Type}(xs:List α)(k:Nat):(y_ k xs).flatten.length=k*xs.length:=by induction k with
|zero=>simp
|succ k ih=>rw[Rc,Rm,L_,ih,Nat.succ_mul,Wb]
theorem Jj:cV X (Ss .Mult) Bm:=by
 intro pz s σ H x y v u Q I rx ry h;obtain⟨l,k,xs,rfl,rfl,hH,h1,h2,hz,q⟩:=h;cases rx;obtain⟨t,rfl⟩:=ry;obtain⟨z,its,n,r,hl,e⟩:=I.lstM hH;have hlen:its.toArray.size*k.toNat<=sizeLine:=by rw[o_,<-hl];exact hz
 have hcap:¬ its.toArray.size*k.toNat>(2^63-1)/8:=by
  have:(sizeLine:Nat)<=(2^63-1)/8:=by decide
  omega
 have hfit:¬ (! UA k)=true:=by rw[fitsIndex_both h1 h2];exact i_
 have hlong:¬ Tn (its.toArray.size*k.toNat)=true:=by rw[MV hlen];exact i_
 have hnew:Xd (fun x1 x2=>x1++x2) #[] (y_ (if its.toArray.isEmpty=true then 0 else k.toNat) its.toArray)=(y_ k.toNat its).flatten.toArray:=by
  have f0:∀m:Nat,Xd (fun x1 x2=>x1++x2) #[] (y_ m its.toArray)=(y_ m its).flatten.toArray:=fun m=>by have:=EW its m [];rw[WV]at this;exact this
  rw[f0];cases its with
 |nil=>simp
 |cons a r'=>rw[if_neg (by simp)]
 refine wpAny_binaryOp_repeat_ref (T := "list") (U := "int") (by decide) ⟨_,e,rfl⟩ (fun s'=>Xc s' k t) noFill_list_mul F.fills_int_mul F.slot_int_rmul repeat_list F.slot_int_index.lookup
  (Vb F.slot_int_rmul (Xc s k t) F.entry_int_rmul (F.args_int_rmul_2 _ _) (int___rmul___int_list k t l its.toArray n)
   ⟨e,rfl,⟨_,e,rfl⟩,Vb F.slot_list_mul ⟨_,e,rfl⟩ F.entry_list_mul (F.args_list_mul_2 _ _) (AutoListH.list___mul___list_int_3 l its.toArray n k t hfit hcap hlong) ⟨e,?_⟩⟩)
 rw[hnew];exact⟨.ref _,_,I.lnew (t':=s.toks) (r.rep k.toNat) (by rw[KQ,Yc];exact hz),rfl,q _ I.fresh⟩
end
section
variable{κ:Type}[DecidableEq κ]
def d5(kvs:List (κ×V))(k:κ):Option V:=(kvs.find? fun kv=>decide (kv.1=k)).map (·.2)
def dL(kvs:List (κ×V))(k:κ)(v:V):List (κ×V):=if (kvs.any fun kv=>decide (kv.1=k))=true then kvs.map (fun kv=>if kv.1=k then(kv.1,v)else kv)else kvs++[(k,v)]
theorem tx{p:κ×V}{r:List (κ×V)}{k:κ}(e:p.1=k):d5 (p::r) k=some p.2:=by simp[d5,QH,e]
theorem qf{p:κ×V}{r:List (κ×V)}{k:κ}(e:¬ p.1=k):d5 (p::r) k=d5 r k:=by simp[d5,QH,e]
theorem Ef(k:κ):∀kvs:List (κ×V),(kvs.any fun kv=>decide (kv.1=k))=(d5 kvs k).isSome
|[]=>rfl
|p::r=>by
  rw[SV];by_cases e:p.1=k
  .simp only[tx e,decide_eq_true e,Bool.true_or,Option.isSome_some]
  .rw[qf e,decide_eq_false e,Bool.false_or];exact Ef k r
theorem Ar(kvs:List (κ×V))(k:κ)(v:V):(dL kvs k v).length<=kvs.length+1:=by
 unfold dL;split
 .rw[p_];omega
 .rw[L_,Q8,Tr];omega
theorem fE.isSome_eq{o:Option V}{u:Option a_}(r:fE o u):o.isSome=u.isSome:=by cases o with
|none=>cases u with
 |none=>rfl
 |some _=>exact(show False from r).elim
|some _=>cases u with
 |none=>exact(show False from r).elim
 |some _=>rfl
theorem fE.getD{o:Option V}{u:Option a_}{d:V}{d':a_}(r:fE o u)(rd:aY d d'):aY (o.getD d) (u.getD d'):=by cases o with
|none=>cases u with
 |none=>exact rd
 |some _=>exact(show False from r).elim
|some _=>cases u with
 |none=>exact(show False from r).elim
 |some _=>exact r
theorem KV.val{kvs:List (κ×V)}{vs:List (κ×a_)}(r:KV kvs vs)(k:κ):fE (d5 kvs k) (VF vs k):=by
 unfold KV at r
 induction r with
|nil=>exact True.intro
|@cons p q ps qs h t ih=>
  obtain⟨h1,h2⟩:=h;by_cases e:p.1=k
  .have e':q.1=k:=h1.symm.trans e;have b:VF (q::qs) k=some q.2:=by simp[VF,QH,e']
   rw[tx e,b];exact h2
  .have e':¬ q.1=k:=fun z=>e (h1.trans z);have b:VF (q::qs) k=VF qs k:=by simp[VF,QH,e']
   rw[qf e,b];exact ih
theorem KV.any{kvs:List (κ×V)}{vs:List (κ×a_)}(r:KV kvs vs)(k:κ):(kvs.any fun kv=>decide (kv.1=k))=vs.any fun kv=>decide (kv.1=k):=by
 unfold KV at r
 induction r with
|nil=>rfl
|cons h t ih=>rw[SV,SV,ih,h.1]
theorem KV.repl{kvs:List (κ×V)}{vs:List (κ×a_)}(r:KV kvs vs)(k:κ){y:V}{u:a_}(ry:aY y u):KV (kvs.map fun kv=>if kv.1=k then(kv.1,y)else kv) (vs.map fun kv=>if kv.1=k then(kv.1,u)else kv):=by
 unfold KV at r ⊢
 induction r with
|nil=>exact .nil
|@cons p q ps qs h t ih=>
  rw[QE,QE];refine .cons ?_ ih;obtain⟨h1,h2⟩:=h;by_cases e:p.1=k
  .rw[if_pos e,if_pos (h1.symm.trans e)];exact⟨h1,ry⟩
  .rw[if_neg e,if_neg (fun z=>e (h1.trans z))];exact⟨h1,h2⟩
theorem KV.put{kvs:List (κ×V)}{vs:List (κ×a_)}(r:KV kvs vs)(k:κ){y:V}{u:a_}(ry:aY y u):KV (dL kvs k y) (stored vs k u):=by
 unfold dL stored;rw[r.any k];by_cases e:(vs.any fun kv=>decide (kv.1=k))=true
 .rw[if_pos e,if_pos e];exact r.repl k ry
 .rw[if_neg e,if_neg e];exact Paired.snoc r ⟨rfl,ry⟩
theorem KV.length{kvs:List (κ×V)}{vs:List (κ×a_)}(r:KV kvs vs):kvs.length=vs.length:=Paired.length r
end
theorem pJ{P:A_}{w:M_}{k:bQ}{u:a_}(r:aY (kV k) u):(hX P w).is k u=true:=by cases k with
|inl i=>obtain⟨t,e⟩:=(show ∃t,u=Value.int i t from r);subst e;exact Pn P w i t
|inr x=>obtain⟨t,e⟩:=(show ∃t,u=Value.str x t from r);subst e;exact Po P w x t
theorem EZ{P:A_}{w:M_}:∀{ks:List bQ}{us:List a_},aU (ks.map kV) us->ItemsAre (hX P w) ks us
|[],_,r=>by rw[R3]at r;cases r;exact .nil
|k::ks,_,r=>by rw[QE]at r;cases r with
 |cons h t=>exact .cons (pJ h) (EZ t)
abbrev KT(H:Hp):List (List bQ×V)->List (List bQ×Addr×a_)->Prop:=Paired fun p q=>p.1=q.1/\H q.2.1=some (.tup (p.1.map kV))/\aY p.2 q.2.2
theorem KT.val{H:Hp}{kvs:List (List bQ×V)}{xs:List (List bQ×Addr×a_)}(r:KT H kvs xs)(k:List bQ):fE (d5 kvs k) ((WQ xs k).map (·.2)):=by induction r with
|nil=>exact True.intro
|@cons p q ps qs h t ih=>
  obtain⟨h1,_,h2⟩:=h;by_cases e:p.1=k
  .have e':q.1=k:=h1.symm.trans e;have b:WQ (q::qs) k=some q.2:=by simp[WQ,QH,e']
   rw[tx e,b];exact h2
  .have e':¬ q.1=k:=fun z=>e (h1.trans z);have b:WQ (q::qs) k=WQ qs k:=by simp[WQ,QH,e']
   rw[qf e,b];exact ih
theorem KT.repl{H:Hp}{kvs:List (List bQ×V)}{xs:List (List bQ×Addr×a_)}(r:KT H kvs xs)(k:List bQ){y:V}{u:a_}(ry:aY y u):KT H (kvs.map fun kv=>if kv.1=k then(kv.1,y)else kv) (xs.map (putAt k u)):=by induction r with
|nil=>exact .nil
|@cons p q ps qs h t ih=>
  rw[QE,QE];refine .cons ?_ ih;obtain⟨h1,h2,h3⟩:=h;unfold putAt;by_cases e:p.1=k
  .rw[if_pos e,if_pos (h1.symm.trans e)];exact⟨h1,h2,ry⟩
  .rw[if_neg e,if_neg (fun z=>e (h1.trans z))];exact⟨h1,h2,h3⟩
theorem KT.put{H:Hp}{kvs:List (List bQ×V)}{xs:List (List bQ×Addr×a_)}(r:KT H kvs xs)(k:List bQ){b:Addr}{y:V}{u:a_}(hb:H b=some (.tup (k.map kV)))(ry:aY y u):KT H (dL kvs k y) (storedH xs k b u):=by
 have e:(kvs.any fun kv=>decide (kv.1=k))=(WQ xs k).isSome:=by rw[Ef,(r.val k).isSome_eq,UM]
 unfold dL storedH;rw[e];by_cases q:(WQ xs k).isSome=true
 .rw[if_pos q,if_pos q];exact r.repl k ry
 .rw[if_neg q,if_neg q];exact Paired.snoc r ⟨rfl,hb,ry⟩
theorem KT.keeps{H H':Hp}{kvs:List (List bQ×V)}{xs:List (List bQ×Addr×a_)}(r:KT H kvs xs)(ht:∀b ys,H b=some (.tup ys)->H' b=some (.tup ys)):KT H' kvs xs:=Paired.mapP r fun _ _ z=>⟨z.1,ht _ _ z.2.1,z.2.2⟩
section
variable{P:A_}{w:M_}{H:Hp}{h:Heap}{a:Addr}
theorem B5{u:HO}(ok:dR P w H h)(e:Rd H a u):dz P w H h a u:=e.ok ok
theorem og{kvs:List (bQ×V)}(ok:dR P w H h)(e:Rd H a (.dK kvs)):kvs.length<=sizeLine/\(a==SH)=false/\∃vs,KV kvs vs/\h.DictOf (hX P w) a vs:=show dz P w H h a (.dK kvs)from B5 ok e
theorem Hq{kvs:List (bQ×V)}(ok:dR P w H h)(e:H a=some (.dK kvs)):kvs.length<=sizeLine/\(a==SH)=false/\∃vs,KV kvs vs/\h.DictOf (hX P w) a vs:=og ok (.inl e)
theorem pS{ks:List bQ}(ok:dR P w H h)(e:H a=some (.tup (ks.map kV))):(VD (hX P w)).is h ks a:=by
 obtain⟨_,its,r,⟨o,h1,h2,n,h3⟩,_⟩:=(show dz P w H h a (.tup (ks.map kV))from ok a _ e)
 exact⟨o,its.toArray,n,h1,h2,h3,by simpa using EZ r⟩
theorem pK{kvs:List (List bQ×V)}(ok:dR P w H h)(e:Rd H a (.dT kvs)):kvs.length<=sizeLine/\(a==SH)=false /\∃xs,KT H kvs xs/\h.DictOfH (VD (hX P w)) a xs:=by
 obtain⟨z,y,xs,r,o,es,ep,h1,h2,h3,h4,h5⟩:=(show dz P w H h a (.dT kvs)from B5 ok e)
 refine⟨z,y,xs,r,o,es,ep,h1,h2,h3,h4,fun x hx=>?_,h5⟩;have all:∀{l:List (List bQ×V)}{m:List (List bQ×Addr×a_)},KT H l m->∀x∈m,(VD (hX P w)).is h x.1 x.2.1:=by
  intro l m q
  induction q with
 |nil=>intro x hx;exact nomatch hx
 |@cons p q ps qs hq t ih=>
   intro x hx;rcases w_.mp hx with e|hx
   .subst e;exact pS ok (by rw[<-hq.1];exact hq.2.1)
   .exact ih x hx
 exact all r x hx
theorem Hr{kvs:List (List bQ×V)}(ok:dR P w H h)(e:H a=some (.dT kvs)):kvs.length<=sizeLine/\(a==SH)=false /\∃xs,KT H kvs xs/\h.DictOfH (VD (hX P w)) a xs:=pK ok (.inl e)
end
def gE(H:Hp)(a:Addr)(y:V)(r:Option V):Prop:=(∃kvs k,Rd H a (.dK kvs)/\y=kV k/\r=d5 kvs k)\/∃kvs k b,Rd H a (.dT kvs)/\y=.ref b/\H b=some (.tup (k.map kV))/\r=d5 kvs k
def iR(H:Hp)(a:Addr)(y v:V)(H':Hp):Prop:=(∃kvs k,H a=some (.dK kvs)/\y=kV k/\kvs.length<sizeLine/\H'=upd H a (.dK (dL kvs k v))) \/∃kvs k b,H a=some (.dT kvs)/\y=.ref b/\H b=some (.tup (k.map kV))/\kvs.length<sizeLine/\H'=upd H a (.dT (dL kvs k v))
theorem gE.k{H:Hp}{a:Addr}{kvs:List (bQ×V)}{k:bQ}(e:H a=some (.dK kvs)):gE H a (kV k) (d5 kvs k):=.inl ⟨kvs,k,.inl e,rfl,rfl⟩
theorem gE.t{H:Hp}{a b:Addr}{kvs:List (List bQ×V)}{k:List bQ}(e:H a=some (.dT kvs))(eb:H b=some (.tup (k.map kV))):gE H a (.ref b) (d5 kvs k):=.inr ⟨kvs,k,b,.inl e,rfl,eb,rfl⟩
theorem iR.k{H:Hp}{a:Addr}{kvs:List (bQ×V)}{k:bQ}{v:V}(e:H a=some (.dK kvs))(hl:kvs.length<sizeLine):iR H a (kV k) v (upd H a (.dK (dL kvs k v))):=.inl ⟨kvs,k,e,rfl,hl,rfl⟩
theorem iR.t{H:Hp}{a b:Addr}{kvs:List (List bQ×V)}{k:List bQ}{v:V}(e:H a=some (.dT kvs))(eb:H b=some (.tup (k.map kV)))(hl:kvs.length<sizeLine):iR H a (.ref b) v (upd H a (.dT (dL kvs k v))):=.inr ⟨kvs,k,b,e,rfl,eb,hl,rfl⟩
section
variable{X:Cx}{pz:List (Addr×Obj)}{σ:St}{H:Hp}{s:d_}{a:Addr}{y v:V}{u r:a_}{o:Option V}{A:K_}{E:a_->d_->Prop}
theorem Inv.big(I:Inv X pz σ H s):SH<s.heap.objs.size:=by have h:N_<s.heap.objs.size:=(I.mod.glob.keeps I.bk).lt;exact Nat.lt_trans (by decide) h
theorem NM{Q:a_->d_->Prop}(hu:A.units+1<R6)(I:Inv X pz σ H s)(g:gE H a y (some v))(ry:aY y u)(h:∀w' s',Inv X pz σ H s'->aY v w'->Q w' s'):q_ (D_ X.prog X.w) A (V_ (.ref a) u) Q E s:=by
 rcases g with⟨kvs,k,e,ey,l⟩|⟨kvs,k,b,e,ey,eb,l⟩
 .subst ey;obtain⟨z,hd,vs,rel,dd⟩:=og I.hok e;obtain⟨w',hw,rw'⟩:=fE.some_of (v:=v) (o:=VF vs k) (by rw[l];exact rel.val k);exact wpAny_getItem_of (pJ ry) dd.mapOf hw (h w' _ (I.tok _) rw')
 .subst ey;cases(show u=Value.ref b from ry);obtain⟨z,hd,xs,rel,dd⟩:=pK I.hok e;obtain⟨w',hw,rw'⟩:=fE.some_of (v:=v) (o:=(WQ xs k).map (·.2)) (by rw[l];exact rel.val k);obtain⟨p,hp,hp2⟩:=Vc.mp hw;refine wpAny_getItem_heap (Tt hu) (pS I.hok eb) dd hp ?_;rw[hp2];exact h w' _ (I.tok _) rw'
theorem Bx{Q:a_->d_->Prop}(hu:A.units+1<R6)(I:Inv X pz σ H s)(g:gE H a y o)(ry:aY y u)(h:∀s',Inv X pz σ H s'->Q (.bool o.isSome) s'):q_ (D_ X.prog X.w) A (QG .In u (.ref a)) Q E s:=by
 rcases g with⟨kvs,k,e,ey,l⟩|⟨kvs,k,b,e,ey,eb,l⟩
 .subst ey;obtain⟨z,hd,vs,rel,dd⟩:=og I.hok e;refine wpAny_in_of (pJ ry) hd dd.mapOf ?_;rw[<-(rel.val k).isSome_eq,<-l];exact h _ (I.tok _)
 .subst ey;cases(show u=Value.ref b from ry);obtain⟨z,hd,xs,rel,dd⟩:=pK I.hok e;refine wpAny_in_heap (Tt hu) (pS I.hok eb) hd dd ?_;have q:=(rel.val k).isSome_eq;rw[UM]at q;rw[<-q,<-l];exact h _ (I.tok _)
theorem JU{Q:a_->d_->Prop}(hu:A.units+1<R6)(I:Inv X pz σ H s)(g:gE H a y o)(ry:aY y u)(h:∀s',Inv X pz σ H s'->Q (.bool (! o.isSome)) s'):q_ (D_ X.prog X.w) A (QG .NotIn u (.ref a)) Q E s:=by
 rcases g with⟨kvs,k,e,ey,l⟩|⟨kvs,k,b,e,ey,eb,l⟩
 .subst ey;obtain⟨z,hd,vs,rel,dd⟩:=og I.hok e;refine wpAny_notIn_of (pJ ry) hd dd.mapOf ?_;rw[<-(rel.val k).isSome_eq,<-l];exact h _ (I.tok _)
 .subst ey;cases(show u=Value.ref b from ry);obtain⟨z,hd,xs,rel,dd⟩:=pK I.hok e;refine wpAny_notIn_heap (Tt hu) (pS I.hok eb) hd dd ?_;have q:=(rel.val k).isSome_eq;rw[UM]at q;rw[<-q,<-l];exact h _ (I.tok _)
theorem Ds{h':Heap}{t':Nat}{ob:HO}(I:Inv X pz σ H s)(mu:rE (H a))(hs:Um a s.heap h')(he:∃q,h'.get? a=some q)(new:dz X.prog X.w (upd H a ob) h' a ob):Inv X pz σ (upd H a ob) { s with heap:=h',toks:=t' }:=I.write (x:=a) (e:=a) mu (.inl rfl) (fun b q hb z=>(hs.2 b hb).trans z) he new
theorem Im{P:A_}{w:M_}{H':Hp}{h':Heap}{kvs:List (bQ×V)}{vs:List (bQ×a_)}(z:kvs.length<=sizeLine)(hd:(a==SH)=false)(rel:KV kvs vs)(dd:h'.DictOf (hX P w) a vs):dz P w H' h' a (.dK kvs):=⟨z,hd,vs,rel,dd⟩
theorem NN{H':Hp}{Q:Unit->d_->Prop}(hu:A.units+1<R6)(I:Inv X pz σ H s)(g:iR H a y v H')(ry:aY y u)(rv:aY v r)(h:∀s',Inv X pz σ H' s'->Q () s'):q_ (D_ X.prog X.w) A (X_ (.ref a) u r) Q E s:=by
 rcases g with⟨kvs,k,e,ey,l,eH⟩|⟨kvs,k,b,e,ey,eb,l,eH⟩
 .subst ey eH;obtain⟨z,hd,vs,rel,dd⟩:=Hq I.hok e;have hz:vs.length<=sizeLine:=by rw[<-rel.length];exact z
  have hl:(dL kvs k v).length<=sizeLine:=by have:=Ar kvs k v;omega
  refine wpAny_setItem_pairs (hsz:=hz) (pJ ry) dd fun h' dd' hs=>h _ ?_;have he:∃q,h'.get? a=some q:=let⟨q,_,_,hq,_⟩:=dd';⟨q,hq⟩;exact Ds I (by rw[e];exact True.intro) hs he (Im hl hd (rel.put k rv) dd')
 .subst ey eH;cases(show u=Value.ref b from ry);obtain⟨z,hd,xs,rel,dd⟩:=Hr I.hok e;have hz:xs.length<=sizeLine:=by rw[<-Paired.length rel];exact z
  have hl:(dL kvs k v).length<=sizeLine:=by have:=Ar kvs k v;omega
  refine wpAny_setItem_heap (hsz:=hz) (Tt hu) (pS I.hok eb) dd fun h' dd' hs=>h _ ?_;obtain⟨q,es,ep,hq,h2,h3,h4,_,h5⟩:=dd';refine Ds I (by rw[e];exact True.intro) hs ⟨q,hq⟩ ⟨hl,hd,_,(rel.put k eb rv).keeps fun c ys ec=>?_,q,es,ep,hq,h2,h3,h4,h5⟩;rw[cM (GM ec e (fun z=>nomatch z))];exact ec
end
section
variable{X:Cx}{pz:List (Addr×Obj)}{σ:St}{H:Hp}{s:d_}{a:Addr}{kvs:List (bQ×V)}{k:bQ}{u:a_}{A:K_}{E:a_->d_->Prop}
theorem Ho{Q:a_->d_->Prop}(I:Inv X pz σ H s)(e:Rd H a (.dK kvs))(h:∀t s',Inv X pz σ H s'->Q (.int kvs.length t) s'):q_ (D_ X.prog X.w) A (call (.builtin "len") [.ref a]) Q E s:=by obtain⟨z,hd,vs,rel,dd⟩:=og I.hok e;refine call_len_dict hd dd (by rw[<-rel.length];rw[QK]at z;omega) ?_;rw[<-rel.length];exact h _ _ (I.tok _)
end
theorem Pa{X:Cx}{pz:List (Addr×Obj)}{σ:St}{H:Hp}{s:d_}{a:Addr}{y:V}{o:Option V}(I:Inv X pz σ H s)(g:gE H a y o):s.TypeIs (.ref a) "dict" := by
 rcases g with⟨kvs,k,e,_,_⟩|⟨kvs,k,b,e,_,_,_⟩
 .obtain⟨_,_,vs,_,dd⟩:=og I.hok e;exact dd.typeIs
 .obtain⟨_,_,xs,_,dd⟩:=pK I.hok e;exact dd.typeIs
theorem L7{P:A_}{w:M_}{H:Hp}(h:Heap)(hb:SH<h.objs.size):dz P w H (h.push { cls:=.type "dict",data:=.dict #[] }) h.objs.size (.dK []):=⟨QU _,beq_eq_false_iff_ne.mpr (Sn (O_ hb)),[],.nil,Heap.DictOf.new h⟩
def J5:TE:=fun _ H Q=>∀p,H p=none->Q (.ref p) (upd H p (.dK []))
section
variable{X:Cx}{pos:Pos}
theorem Na:PE X (.Dict [] [] pos) J5:=fun pz s σ H Q I h=>wpAny_Dict_empty ⟨.ref s.heap.objs.size,_,I.laid (a:=s.heap.objs.size) (o:=.dK []) (t':=s.toks) (fun _ _ q=>e_ _ q) (r_ _) (L7 s.heap I.big),rfl,h _ (I.hok.fresh (r_ _))⟩
end
def lX(kvs more:List (bQ×V)):List (bQ×V):=more.foldl (fun acc kv=>dL acc kv.1 kv.2) kvs
theorem KV.merge:∀{more:List (bQ×V)}{rs:List (bQ×a_)}{kvs:List (bQ×V)}{vs:List (bQ×a_)},KV more rs->KV kvs vs->KV (lX kvs more) (merged vs rs):=by
 intro more rs kvs vs r;unfold KV at r
 induction r generalizing kvs vs with
|nil=>intro q;exact q
|@cons p q ps qs h t ih=>
  intro r0;have e:KV (dL kvs p.1 p.2) (stored vs q.1 q.2):=by have:=r0.put p.1 h.2;rw[<-h.1];exact this
  exact ih e
theorem F5:∀(more kvs:List (bQ×V)),(lX kvs more).length<=kvs.length+more.length
|[],kvs=>by show kvs.length<=kvs.length+0;omega
|p::r,kvs=>by have h1:=F5 r (dL kvs p.1 p.2);have h2:=Ar kvs p.1 p.2;show(lX (dL kvs p.1 p.2) r).length<=_;rw[Q8];omega
structure M1(X:Cx)(o:Expr)(m:Str)(apos:Pos)(e:Expr)(cpos:Pos):Prop where
 base:RN o m X.env (eval o X.env)=eval o X.env
 few:((backTo cpos (h_ [e] X.env)).all (fun x=>! x.1)&&(Vr cpos (T9 [] X.env)).all (fun x=>x.1.isSome)
  && decide (([e]:List Expr).length+([]:List T5).length+(if ([]:List T5).isEmpty then 0 else 1)<30))=true
 line:(apos.endLine==cpos.line)=true
 trees:backTo cpos (h_ [e] X.env)=[(false,eval e X.env)]
structure M2(X:Cx)(o:Expr)(m:Str)(apos:Pos)(e f:Expr)(cpos:Pos):Prop where
 base:RN o m X.env (eval o X.env)=eval o X.env
 few:((backTo cpos (h_ [e,f] X.env)).all (fun x=>! x.1)&&(Vr cpos (T9 [] X.env)).all (fun x=>x.1.isSome)
  && decide (([e,f]:List Expr).length+([]:List T5).length+(if ([]:List T5).isEmpty then 0 else 1)<30))=true
 line:(apos.endLine==cpos.line)=true
 trees:backTo cpos (h_ [e,f] X.env)=[(false,eval e X.env),(false,eval f X.env)]
end L2
namespace Att
open PySem PySem.W PySem.Calls PyProof.Rows
theorem Qe{P:Params}{h:Heap}:∀(ns:List Int)(vs:List a_),WellAll P h vs (ns.map WData.int)->Tq vs ns:=by
 intro ns
 induction ns with
|nil=>intro vs w;rw[R3]at w;cases w;exact .nil
|cons n ns ih=>intro vs w;rw[QE]at w;cases w with
 |cons a b=>cases a;exact .cons _ _ (ih _ b)
theorem Ob{l:OpenLaw}{n:Nat}(hn:l.most=some n){P:Params}{h:Heap}{args:List WData}{vals:List a_}(hpre:l.row.toRowW.claim.pre args=true)(hwl:WellAll P h vals args):∃a vs ns,vals=[Value.ref a]/\args=[WData.list (ns.map WData.int)]/\h.get? a=some { cls:=.type "list",data:=.seq vs.toArray }/\Tq vs ns/\ns.length<=n:=by
 have hsh:WShape.hasAll [] args [.list .int]=true:=(pre_splitW hpre).1;have hc:l.pre.holds [] { args:=args }=true:=(pre_splitW hpre).2;obtain⟨d,r,rfl,h1,h2⟩:=hasAllW_cons hsh;obtain rfl:=hasAllW_nil h2;obtain⟨xs,rfl,h3⟩:=hasW_list h1;obtain⟨ns,rfl⟩:=items_int h3;have hlen:ns.length<=n:=by
  unfold OpenLaw.pre at hc;have h4:(WTm.not (.lt (.lit (.int (n:Int))) (.len (.arg 0)))).holds [] { args:=[.list (ns.map .int)] }=true:=by have h4:=(holds_andW hc).1;rw[hn]at h4;exact h4
  have h5:=condW_of h4 (w_not (w_lt w_lit (w_len_list (w_arg rfl))));rw[p_]at h5;refine Nat.le_of_not_lt fun q=>?_;have q':(n:Int)<((ns.length:Nat):Int):=by omega
  first
   |(rw[decide_eq_true q']at h5;exact absurd h5 (by decide))
   |(simp at h5;omega)
 cases hwl with
|cons w1 w2=>cases w2;cases w1 with
 |list ho hall=>exact⟨_,_,ns,rfl,rfl,ho,Qe ns _ hall,hlen⟩
theorem NZ(l:OpenLaw)(args:List WData):l.row.toRowW.claim.post args (.bool true) args=true:=
 postW_of (r:=l.row.toRowW) (X:=(true==true))
  (show Yq [] (.bool true) .bool=true by first|rfl|decide|simp[Yq,WShape.arms,WShape.armsAll])
  (show(WTm.eq .res (.lit (.bool true))).value [] { args:=args,res:=some (.bool true),after:=args }=some (.bool (true==true))from w_eq_bool (w_res rfl) w_lit) rfl
theorem attach_call{l:OpenLaw}{n:Nat}{q:A_}{loose:List Str}{XP:(Str->Option a_)->Heap->Prop}{YP:M_->Heap->Prop}{d:DefRec}(hn:l.most=some n)(hdf:d.params.defaults=[])(call:∀(w:M_)(s₀ s₁:d_)(mg mb:Str->Option a_)(fa:Addr)(o:Obj)(pm cd doc:a_)(a:Addr)(vs:List a_)(ns:List Int),Ground q loose [] XP w s₀ mg mb s₁.heap->YP w s₁.heap ->s₁.heap.get? fa=some o->o.data=.func (docDef d.name d.params d.body d.scope pm cd doc)->s₁.heap.CodeRec cd d.name->mg d.name=some (.ref fa) ->s₁.heap.get? a=some { cls:=.type "list",data:=.seq vs.toArray }->Tq vs ns->ns.length<=n->s₁.gens = #[] ->UK (D_ l.prog w) Vd (.call (.ref fa) ⟨[.ref a],[]⟩) (fun r s'=>r=.ok (.ret (.bool true))/\OldK s₁.heap s'.heap/\s'.os=s₁.os/\TC s'.gens) s₁):WalkO q loose XP YP l.row.toRowW d [] (fun f vs=>Xe f vs):=by intro w s₀ s₁ mg mb G Y fa o pm cd doc dV kV ho hd hcd hD hmg hg args vals as hpre hlay hrd hwl hlo;obtain rfl:dV=.none:=Dflts.none hD hdf;obtain rfl:kV=.none:=Dflts.noKw hD;obtain⟨a,vs,ns,rfl,rfl,hobj,hints,hlen⟩:=Ob hn hpre hwl;refine enter_call (TF (call w s₀ s₁ mg mb fa o pm cd doc a vs ns G Y ho (fd_plain hd) hcd hmg hobj hints hlen hg) fun r s' hq=>?_);obtain⟨rfl,h2,h3,h4⟩:=hq;exact⟨.inl ⟨.bool true,.bool true,[],rfl,fun _=>rfl,.bool true,NZ l _,fun _=>⟨List.Pairwise.nil,fun _ hm=>(nomatch hm)⟩⟩,h2,h3,h4⟩
end Att
namespace L2
open PySem PySem.Spec PyProof.Rows
theorem Fb:∀{vs:List a_}{ns:List Int},Tq vs ns->aU (ns.map V.int) vs
|_,_,.nil=>.nil
|_,_,.cons n t h=>.cons ⟨t,rfl⟩ (Fb h)
def nY(H:Hp):Prop:=∀b,H b=none\/∃o xs,H b=some (.frz o (.lst xs))
theorem Nn{P:A_}{w:M_}{K:W.Frag}{mg mb:Str->Option a_}{CX:gY}{k:Nat}{fa a:Addr}{fd:Q7}{x:Str}{sp:Sp}{s₁:d_}{vs:List a_}{ns:List Int}(KX:K.In s₁.heap)(hns:s₁.heap.Ns N_ mg)(hb:s₁.heap.Ns W6 mb)(hbb:∀x:Str,x≠"__name__"->mb x=SJ x)(hlim:s₁.heap.NoLimit)(hg:s₁.gens = #[])(ha:s₁.heap.get? a=some { cls:=.type "list",data:=.seq vs.toArray })(hi:Tq vs ns)(hl:ns.length<=sizeLine)(hr:Room k Vd)(F:∀base:Heap,K.In base->base.Ns N_ mg->FnOk P w K mg base CX k fa fd [x] sp)(hbind:∀(s:d_)(u:a_),U8 s fd ⟨[u],[]⟩ [(x,u)])(hsp:∀H:Hp,nY H->c7 K H a (ns.map V.int)->sp [.ref a] H (fun v _=>v=.bl true) fun _ _ _=>False)(hCX:∀H e s',CX [] H s₁ (fun _ _ _=>False) e s'->False):UK (D_ P w) Vd (.call (.ref fa) ⟨[.ref a],[]⟩) (fun r s'=>r=.ok (.ret (.bool true))/\OldK s₁.heap s'.heap/\s'.os=s₁.os/\TC s'.gens) s₁:=by
 have rv:=Fb hi;have lenV:=hi.length;have core:∀H:Hp,nY H->c7 K H a (ns.map V.int)->dR P w H s₁.heap->(∀b,H b≠none->b=a)->(H a≠none->K.lookup a=none) ->UK (D_ P w) Vd (.call (.ref fa) ⟨[.ref a],[]⟩) (fun r s'=>r=.ok (.ret (.bool true))/\OldK s₁.heap s'.heap/\s'.os=s₁.os/\TC s'.gens) s₁:=by
  intro H hO hS hok hA hK;have base_of:∀{b:Addr}{o:Obj},s₁.heap.get? b=some o->H b=none->(gR s₁.heap H).get? b=some o:=fun e n=>Mh e n;have noA:∀{b:Addr}{o:Obj}{es:Array DictEntry}{ep:Nat},s₁.heap.get? b=some o->o.data=.dict es ep->H b=none:=fun{b o es ep} e d=>by cases q:H b with
  |none=>rfl
  |some u=>have e':b=a:=hA b (by rw[q];simp);subst e';rw[ha]at e;cases e;have d':Data.seq vs.toArray _=Data.dict es ep:=d;cases d'
  have nsK:∀{b:Addr}{m:Str->Option a_},s₁.heap.Ns b m->(gR s₁.heap H).Ns b m:=fun{b m} ⟨o,es,ep,e,d,r⟩=>⟨o,es,ep,base_of e (noA e d),d,r⟩
  have hKb:K.In (gR s₁.heap H):=fun b o e=>base_of (KX b o e) (by cases q:H b with
  |none=>rfl
  |some u=>have e':b=a:=hA b (by rw[q];simp);subst e';rw[hK (by rw[q];simp)]at e;cases e)
  have hM:Mod K mg (gR s₁.heap H):=⟨hKb,nsK hns,⟨mb,nsK hb,hbb⟩,let⟨mc,h1,h2⟩:=hlim;⟨mc,nsK h1,h2⟩⟩
  have e0:Env0 P w K mg (gR s₁.heap H) Vd [] s₁ H:=⟨rfl,hM,fun b o e=>K1 e,Up (Nz _ _),trivial,fun b hb=>absurd (show b∈([]:List Addr)from hb) (by simp),hok,.of_eq hg⟩
  refine TF ((F _ hKb (nsK hns)).run Vd [] s₁ H ⟨[.ref a],[]⟩ [.ref a] [.ref a] _ _ hr e0 (hbind s₁ (.ref a)) (.cons rfl .nil) (hsp H hO hS)) fun r s' h=>?_;cases r with
 |error e=>exact(hCX H e s' h).elim
 |ok fl=>cases fl with
  |next=>exact QF h
  |brk=>exact QF h
  |cont=>exact QF h
  |ret u=>obtain⟨v,H',os,bare,un,hok',r',q⟩:=h;have q':v=.bl true:=q;subst q';obtain rfl:u=Value.bool true:=r';refine⟨rfl,OldK.of_keep fun b o e=>?_,os,bare⟩;cases q:H b with
   |none=>exact un.keep b o e q (by intro z;exact absurd (show b∈([]:List Addr)from z) (by simp)) (by simp)
   |some u=>
     rcases hO b with z|⟨ob,xs,z⟩
     .rw[q]at z;cases z
     .have z2:=un.frzs b ob _ z;obtain⟨e1,_⟩:=hok b _ z;obtain⟨e2,_⟩:=hok' b _ z2;rw[e]at e1;cases e1;exact e2
 cases hk:K.lookup a with
|some o=>have e:=KX a o hk;rw[ha]at e;cases e;refine core (fun _=>none) (fun _=>.inl rfl) (.inr ⟨_,vs.toArray,_,hk,rfl,rfl,rfl,by rw[o_,lenV];exact hl,by simpa using rv⟩) (fun b u z=>by have z':(none:Option HO)=some u:=z;cases z') (fun b z=>absurd rfl z) fun z=>absurd rfl z
|none=>
  refine core (fun b=>if b=a then some (.frz { cls:=.type "list",data:=.seq vs.toArray } (.lst (ns.map V.int)))else none) (fun b=>?_) (.inl (.inr ⟨{ cls:=.type "list",data:=.seq vs.toArray },if_pos rfl⟩)) (fun b u z=>?_) (fun b z=>?_) fun _=>hk
  .by_cases hb:b=a
   .exact .inr ⟨_,_,if_pos hb⟩
   .exact .inl (if_neg hb)
  .by_cases hb:b=a
   .have z':=(if_pos hb).symm.trans z;cases z';subst hb;exact⟨ha,by rw[p_];exact hl,vs,_,rv,ha⟩
   .have z':=(if_neg hb).symm.trans z;cases z'
  .by_cases hb:b=a
   .exact hb
   .exact absurd (if_neg hb) z
abbrev bR{K:W.Frag}{h:Heap}(_:K.In h):W.Frag:=K
theorem lg{l:W.OpenLaw}{n k:Nat}{q:A_}{loose:List Str}{XP:(Str->Option a_)->Heap->Prop}{YP:M_->Heap->Prop}{d:DefRec}{K:Params->W.Frag}{CX:M_->gY}{sp:M_->Sp}{x:Str}(hn:l.most=some n)(hn2:n<=sizeLine)(hdf:d.params.defaults=[])(hr:Room k Vd)(hY:∀(w:M_)(h:Heap),YP w h->(K w.params).In h)(F:∀(w:M_)(mg:Str->Option a_)(fa:Addr)(h:Heap),(K w.params).In h->h.Ns N_ mg->mg d.name=some (.ref fa) ->∃fd:Q7,(∀(s:d_)(u:a_),U8 s fd ⟨[u],[]⟩ [(x,u)]) /\∀base:Heap,(K w.params).In base->base.Ns N_ mg->FnOk l.prog w (K w.params) mg base (CX w) k fa fd [x] (sp w))(hsp:∀(w:M_)(H:Hp)(a:Addr)(ns:List Int),ns.length<=n->nY H->c7 (K w.params) H a (ns.map V.int)->sp w [.ref a] H (fun v _=>v=.bl true) fun _ _ _=>False)(hCX:∀(w:M_)(H:Hp)(s:d_)(e:a_)(s':d_),CX w [] H s (fun _ _ _=>False) e s'->False):W.WalkO q loose XP YP l.row.toRowW d [] (fun f vs=>Xe f vs):=by refine Att.attach_call hn hdf fun w s₀ s₁ mg mb fa o pm cd doc a vs ns G Y ho hd hcd hmg hobj hints hlen hg=>?_;have KX:=hY w _ Y;obtain⟨fd,hb,hF⟩:=F w mg fa _ KX G.T.g hmg;exact Nn KX G.T.g G.T.b G.T.builtins G.T.nolimit hg hobj hints (QI hlen hn2) hr hF hb (fun H hO hS=>hsp w H a ns hlen hO hS) fun H e s'=>hCX w H s₁ e s'
def bS(s:Stmt):X7:=match s with
|.FunctionDef _ a _ _ _ _ _ _ _ _=>a
|_=>{ posonlyargs:=[],args:=[],vararg:=none,kwonlyargs:=[],kw_defaults:=[],kwarg:=none,defaults:=[] }
def aW(s:Stmt):List Stmt:=match s with
|.FunctionDef _ _ b _ _ _ _ _ _ _=>b
|_=>[]
def aM(s:Stmt):Sz:=match s with
|.FunctionDef _ _ _ _ _ _ sc _ _ _=>sc
|_=>{ kind:=.function,names:=[],isGenerator:=false,isCoroutine:=false }
abbrev dN:gY:=fun _ _ _ _ _ _=>False
abbrev E0:XK:=fun _ _ _=>False
theorem Cb{X:Cx}:pU dN X E0:=fun _ _ _ _ _ _ _ h=>h.elim
structure Fun(K:W.Frag)(x qual:Str)(st:Stmt)(f:Addr)(fd:Q7):Prop where
 ex:∃(oc:a_)(od:Option Addr)(kV doc pm:a_)(an:Option Addr)(cdv ct:a_)(osl:Array (Option a_)),fd=W.fnOf x qual (bS st) (aW st) (aM st) .none kV doc pm an cdv ct/\K.lookup f=some ⟨oc,od,.func fd,osl⟩/\W.codeIn K cdv qual=true
 kp:W.keepIn K (.ref f)=true
section
variable{P:A_}{w:M_}{K:W.Frag}{mg:Str->Option a_}{base:Heap}
theorem Fun.ok{x qual:Str}{st:Stmt}{f:Addr}{fd:Q7}{N ps:List Str}{k:Nat}{sp:Sp}(F:Fun K x qual st f fd)(S:FnScope N ps (aM st))(len:∀vs H Q E,sp vs H Q E->vs.length=ps.length)(hbody:∀(cdv:a_)(A:K_)(outer:List Env)(s:d_)(H:Hp)(vs:List V)(Q:VK)(E:XK),Room k (A.deeper (Sj qual (aM st) s.heap.objs.size f cdv))->sp vs H Q E ->∃t,eY (cX dN P w K mg base N qual (aM st) f cdv A outer s H E).nox (aW st) t/\t { nx:=fun _ H'=>Q .non H',rt:=Q } (cR N vs) H):FnOk P w K mg base dN (k+1) f fd ps sp:=by obtain⟨oc,od,kV,doc,pm,an,cdv,ct,osl,rfl,lk,hcd⟩:=F.ex;refine rO lk hcd S len fun A outer s H vs Q E hr hsp=>?_;obtain⟨t,h,q⟩:=hbody cdv A outer s H vs Q E hr hsp;exact⟨t,h.nox,q⟩
theorem Fun.binds{x qual:Str}{st:Stmt}{f:Addr}{fd:Q7}{ps:List Str}(F:Fun K x qual st f fd)(h:∀(kV doc pm:a_)(an:Option Addr)(cdv ct:a_)(us:List a_),us.length=ps.length->Tk (W.fnOf x qual (bS st) (aW st) (aM st) .none kV doc pm an cdv ct) ⟨us,[]⟩=pure (ps.zip us)):ik K fd ps []:=by obtain⟨oc,od,kV,doc,pm,an,cdv,ct,osl,rfl,lk,hcd⟩:=F.ex;exact .all (h kV doc pm an cdv ct)
theorem iO{x qual:Str}{st:Stmt}{f:Addr}{oc:a_}{od an:Option Addr}{osl:Array (Option a_)}{kV doc pm cdv ct:a_}(l:K.lookup f=some ⟨oc,od,.func (W.fnOf x qual (bS st) (aW st) (aM st) .none kV doc pm an cdv ct),osl⟩)(c:W.codeIn K cdv qual=true)(k:W.keepIn K (.ref f)=true):Fun K x qual st f (W.fnOf x qual (bS st) (aW st) (aM st) .none kV doc pm an cdv ct):=⟨⟨oc,od,kV,doc,pm,an,cdv,ct,osl,rfl,l,c⟩,k⟩
end
theorem im{A:K_}{k:Nat}(hr:Room k A):A.units+1<R6:=VY (VJ (by decide:1<=64) _) hr.units
section
variable{X:Cx}
theorem NH:gF X (.builtin "len") (fun xs H Q=>∃a kvs,xs=[V.ref a]/\Rd H a (.dK kvs)/\Q (.int kvs.length) H):=by intro pz s σ H xs us Q I r h;obtain⟨a,kvs,rfl,ha,q⟩:=h;obtain⟨u,rfl,ru⟩:=jG r;cases ru;exact Ho I ha fun t s' I'=>⟨.int kvs.length,H,I',⟨t,rfl⟩,q⟩
end
def gD(H H':Hp):Prop:=∀b o,H b=some o->H' b=some o
theorem gD.refl(H:Hp):gD H H:=fun _ _ h=>h
theorem gD.trans{H H1 H2:Hp}(a:gD H H1)(b:gD H1 H2):gD H H2:=fun c o h=>b c o (a c o h)
theorem gD.free{H H':Hp}(e:gD H H'){l:Addr}(h:H' l=Option.none):H l=Option.none:=by cases q:H l with
|none=>rfl
|some o=>rw[e l o q]at h;cases h
theorem gD.seq{K:W.Frag}{H H':Hp}{a:Addr}{xs:List V}(e:gD H H')(h:c7 K H a xs):c7 K H' a xs:=by
 rcases h with(h|⟨o,h⟩)|h
 .exact .inl (.inl (e _ _ h))
 .exact .inl (.inr ⟨o,e _ _ h⟩)
 .exact .inr h
end L2
end
namespace DL
open PySem
section
open PySem.SeqAt
open PySem.AutoSeq1 (wpAny_loadPart')
open PySem.MeetsSeq PySem.MeetsSeq2 PySem.MeetsSeq3
end
end DL
namespace DL
open PySem PyProof.Rows
end DL
namespace DL
open PySem PyProof.Rows PySem.W
def pR{α:Type}(c:Nat->Nat->Bool):KasT α->α
|.ret a=>a
|.ask i j k=>pR c (k (c i j))
inductive Asks(n:Nat){α:Type}(P:α->Prop):KasT α->Prop where
 |ret {a:α}:P a->Asks n P (.ret a)
 |ask {i j:Nat} {k:Bool->KasT α}:i<n->j<n->(∀b,Asks n P (k b))->Asks n P (.ask i j k)
theorem Asks.bind{n:Nat}{α β:Type}{P:α->Prop}{P':β->Prop}{t:KasT α}{f:α->KasT β}(h:Asks n P t)(hf:∀a,P a->Asks n P' (f a)):Asks n P' (t.bind f):=by induction h with
|ret h=>exact hf _ h
|ask h1 h2 _ ih=>exact .ask h1 h2 ih
theorem Asks.run{n:Nat}{α:Type}{P:α->Prop}{t:KasT α}(h:Asks n P t)(c:Nat->Nat->Bool):P (pR c t):=by induction h with
|ret h=>exact h
|ask _ _ _ ih=>exact ih _
theorem Asks.mono{n:Nat}{α:Type}{P P':α->Prop}{t:KasT α}(h:Asks n P t)(hp:∀a,P a->P' a):Asks n P' t:=by induction h with
|ret h=>exact .ret (hp _ h)
|ask h1 h2 _ ih=>exact .ask h1 h2 ih
theorem NE{n:Nat}{α:Type}{P:α->Prop}{cmp:Nat->Nat->(Bool->d_->Prop)->d_->Prop}{c:Nat->Nat->Bool}{s:d_}(hc:∀i j C,i<n->j<n->C (c i j) s->cmp i j C s){Q:α->d_->Prop}{t:KasT α}(h:Asks n P t):Q (pR c t) s->t.kasWp cmp Q s:=by induction h with
|ret _=>exact fun q=>q
|ask h1 h2 _ ih=>exact fun q=>hc _ _ _ h1 h2 (ih _ q)
def f8(n:Nat)(p:Array Nat):Prop:=p.toList.Perm (C_ n)
theorem f8.bd{n:Nat}{p:Array Nat}(h:f8 n p)(hn:0<n)(k:Nat):p.getD k 0<n:=by
 by_cases hk:k<p.size
 .have e:p.getD k 0=p[k]:=by simp[Yr,hk]
  rw[e];exact QJ.mp (h.mem_iff.mp (by simp))
 .have e:p.getD k 0=0:=by simp[Yr,hk]
  rw[e];exact hn
theorem f8.rev{n:Nat}{p:Array Nat}(h:f8 n p)(i j:Nat):f8 n (kas_rev p i j):=(UB.mp (mirror_perm p i j ((j-i)/2))).trans h
theorem f8.bub{n:Nat}{p:Array Nat}(h:f8 n p)(i j:Nat):f8 n (bubble p i j):=(UB.mp (bubble_perm p i j)).trans h
section
variable{n:Nat}(hn:0<n)
include hn
theorem yO{p:Array Nat}(h:f8 n p):∀f k,Asks n (fun _=>True) (kas_asc p f k)
|0,k=>.ret trivial
|f+1,k=>.ask (h.bd hn _) (h.bd hn _) fun b=>by cases b with
 |true=>rw[if_pos rfl];exact .ret trivial
 |false=>rw[if_neg i_];exact yO h f (k+1)
theorem tw:∀f (p:Array Nat) k q,f8 n p->Asks n (fun r=>f8 n r.1) (kas_desc f p k q)
|0,p,k,q,h=>.ret h
|f+1,p,k,q,h=>.ask (h.bd hn _) (h.bd hn _) fun b=>by cases b with
 |true=>
   rw[if_pos rfl];split
   .exact tw f _ _ _ (h.rev _ _)
   .exact tw f _ _ _ h
 |false=>rw[if_neg i_];refine .ask (h.bd hn _) (h.bd hn _) fun b=>?_;cases b with
  |true=>rw[if_pos rfl];exact .ret h
  |false=>rw[if_neg i_];exact tw f _ _ _ h
theorem EM{p:Array Nat}(h:f8 n p)(a b:Nat):Asks n (fun r=>f8 n r.2) (kas_tail3 a b p):=Asks.bind (yO hn (h.rev 0 a) _ _) fun m _=>.ret (h.rev 0 a)
theorem Fx{p:Array Nat}(h:f8 n p)(a b:Nat):Asks n (fun r=>f8 n r.2) (kas_descPart a b p):=by
 refine Asks.bind (tw hn _ p _ _ h) fun r hr=>?_;split
 .exact EM hn (hr.rev _ _) _ _
 .exact EM hn hr _ _
theorem OR{p:Array Nat}(h:f8 n p)(a:Nat):Asks n (fun r=>f8 n r.2) (kas_count a p):=by
 refine Asks.bind (yO hn h _ _) fun k _=>?_;split
 .exact .ret h
 .split
  .refine .ask (h.bd hn _) (h.bd hn _) fun b=>?_;cases b with
  |true=>rw[if_pos rfl];exact .ret h
  |false=>rw[if_neg i_];exact Fx hn (h.rev _ _) _ _
  .exact Fx hn h _ _
theorem zQ{p:Array Nat}(h:f8 n p)(k:Nat):∀f l r,Asks n (fun _=>True) (kas_place p k f l r)
|0,l,r=>.ret trivial
|f+1,l,r=>by
  unfold kas_place;split
  .exact .ret trivial
  .refine .ask (h.bd hn _) (h.bd hn _) fun b=>?_;cases b with
  |true=>rw[if_pos rfl];exact zQ h k f _ _
  |false=>rw[if_neg i_];exact zQ h k f _ _
theorem D4:∀f (p:Array Nat) k,f8 n p->Asks n (f8 n) (kas_bin f p k)
|0,p,k,h=>.ret h
|f+1,p,k,h=>Asks.bind (zQ hn h k _ _ _) fun l _=>D4 f _ _ (h.bub _ _)
theorem EL:Asks n (f8 n) (kas_sort n):=by
 refine Asks.bind (OR hn (p:=List.toArray (C_ n)) (by unfold f8;simp) n) fun r hr=>?_;split
 .exact D4 hn _ _ _ hr
 .exact .ret hr
end
def j9(n:Nat)(c:Nat->Nat->Bool):List Nat:=if n<2 then C_ n else(pR c (kas_sort n)).toList
theorem zS(n:Nat)(c:Nat->Nat->Bool):(j9 n c).Perm (C_ n):=by
 unfold j9;split
 .exact .refl _
 .exact(EL (n:=n) (by omega)).run c
def jQ:List Int->List Int->Bool
|[],[]=>false
|[],_::_=>true
|_::_,[]=>false
|x::xs,y::ys=>if x=y then jQ xs ys else decide (x<y)
def jf(fin:Bool):List (List Int)->List (List Int)->Bool
|k::ks,l::ls=>if k=l then jf fin ks ls else jQ k l
|_,_=>fin
def gB(ks ls:List (List Int)):Bool:=jf (decide (ks.length<ls.length)) ks ls
end DL
namespace DL
open PySem PyProof.Rows PySem.W PySem.Calls
section
variable{prog:A_}{w:M_}{A:K_}{E:a_->d_->Prop}{s:d_}
theorem OH{a:Addr}{vs:List a_}{n:Nat}{P:PySem.Fin->d_->Prop}(ho:s.heap.get? a=some (UQ "list" vs.toArray n))(h2:vs.length<2)(h:∀h' c,(∀b o,b≠a->s.heap.get? b=some o->h'.get? b=some o)->h'.get? a=some (UQ "list" vs.toArray c)->P (.done (.ret .none)) { s with heap:=h' }):q_ (D_ prog w) A (RE.«list.sort» ⟨[.ref a],[]⟩) P E s:=by
 have fits:vs.length<=sizeLine:=by rw[QK];omega
 have up:=fun(h:Heap)(f:Array a_->Array a_)=>Ui h a (SK f);obtain⟨e1,ho1⟩:∃e1,(s.heap.update a (SK fun _=>(#[]:Array a_))).get? a=some (UQ "list" #[] e1):=⟨_,WW ho fun _=>#[]⟩
 rw[list_sort_plain];refine b_ (listItems_at ho rfl (b_ (listUpdate_at ho rfl ?_ (by rw[o_];exact fits) (QU _))));refine b_ (seqEpoch_at ho1 rfl (b_ (wpAny_newTuple (b_ (wpAny_newList (Ro ?_) (QU _))) (by show vs.length<=_;exact fits))))
 dsimp only
 have hlt:vs.toArray.size<2:=by rw[o_];exact h2
 rw[if_pos hlt,if_pos hlt];refine b_ (j_ ?_);have hrun:(pure ():StateT SortSt Sem Unit).run (Xf general' (vs.toArray.zip vs.toArray) #[] 7 none)=pure ((),Xf general' (vs.toArray.zip vs.toArray) #[] 7 none):=rfl;rw[hrun];refine b_ (j_ ?_)
 dsimp only
 have hout:(arrOf (Xf general' (vs.toArray.zip vs.toArray) #[] 7 none)).map (·.2)=vs.toArray:=by show((vs.toArray.zip vs.toArray).map (·.2))=vs.toArray;apply Ys;simp[List.map_snd_zip]
 rw[hout];have keep3:∀b o,(s.heap.update a (SK fun _=>(#[]:Array a_))).get? b=some o->(((s.heap.update a (SK fun _=>(#[]:Array a_))).push (UQ "tuple" vs.toArray 0)).push (UQ "list" #[] 0)).get? b=some o:=fun b o e=>e_ _ (e_ _ e);have ho3:=keep3 _ _ ho1;refine b_ (seqEpoch_at ho3 rfl (b_ (listUpdate_at ho3 rfl ?_ (QU _) (by rw[o_];exact Nat.le_succ_of_le fits))));simp only[bne_self_eq_false,VZ,if_false];refine j_ (h _ _ (fun b o hb e=>?_) (WW ho3 fun _=>vs.toArray));exact((up _ _).2 b hb).trans (keep3 b o (((up _ _).2 b hb).trans e))
theorem PH{l:Addr}{vs:List a_}{Q:a_->d_->Prop}(hl:s.heap.IsList l vs.toArray)(h2:vs.length<2)(h:∀h' c D,(∀b o,s.heap.get? b=some o->h'.get? b=some o)->s.heap.objs.size<=D->h'.get? D=some (UQ "list" vs.toArray c)->Q (.ref D) { s with heap:=h' }):q_ (D_ prog w) A (call (.builtin "sorted") [.ref l]) Q E s:=by
 refine Calls.call_function_entry kind_sorted plain_sorted entry_sorted (args_sorted1 _) ?_;unfold RE.«sorted»;refine b_ (m:=checkCount "sorted" 1 1 _) (j_ (b_ (collect_list hl ?_ (by rw[QK];omega))));refine b_ (wpAny_newList ?_ (by rw[QK];omega));generalize hH:((s.heap.push (UQ "list" #[] 0)).update s.heap.objs.size (SK (·++vs.toArray)))=H1;have hsz:H1.objs.size=s.heap.objs.size+1:=by rw[<-hH,Heap.size_update,size_push']
 have keep:∀b o,s.heap.get? b=some o->(H1.push (UQ "list" vs.toArray 0)).get? b=some o:=fun b o q=>by have hlt:b<s.heap.objs.size:=s_ q;refine e_ _ ?_;rw[<-hH,Q5 _ _ _ _ (O_ hlt)];exact e_ _ q
 have hoL:(H1.push (UQ "list" vs.toArray 0)).get? H1.objs.size=some (UQ "list" vs.toArray 0):=x_ _ rfl;refine b_ (Ro (Su slot_list_sort ⟨_,hoL,rfl⟩ entry_list_sort ?_ (args_list_sort _)));refine OH (s:={ s with heap:=H1.push (UQ "list" vs.toArray 0) }) hoL h2 fun h' c kp hD=>?_;refine⟨_,rfl,j_ ⟨_,rfl,h h' c _ (fun b o e=>kp b o ?_ (keep b o e)) (by rw[hsz];exact Vt _) hD⟩⟩;rw[hsz];exact O_ (UN (s_ e))
end
end DL
namespace DL
open PySem PySem.Spec PyProof.Rows L2 PySem.W PySem.Calls
structure Lft(fr:List Addr)(a:Addr)(oe:Obj)(vs:Array a_)(T:Option Addr)(v:a_)(h h':Heap):Prop where
 keep:∀b o,b∉fr->b≠a->T≠some b->h.get? b=some o->h'.get? b=some o
 slot:∀b o,h.get? b=some o->(∀vs:Array a_,o.data≠Data.fields vs)->∃sl,h'.get? b=some { cls:=o.cls,dict:=o.dict,data:=o.data,slots:=sl }
 obj:∃tb ot ts,(h.get? tb=none\/T=some tb)/\tb≠a/\h'.get? a=some { cls:=oe.cls,dict:=oe.dict,data:=.fields (vs.setIfInBounds 1 (.ref tb)),slots:=oe.slots }/\h'.get? tb=some ot/\ot.data=.fields ts/\ts[3]? = some v
def rW(a:Addr)(h:Heap):Prop:=∃oe vs tb,h.get? a=some oe/\oe.data=Data.fields vs/\vs[1]? = some (Value.ref tb)
abbrev nP(fl:Option Addr):a_:=fl.elim Value.none fun f=>TD f
section
variable{M:V7}{A:K_}{E:a_->d_->Prop}{s:d_}{B:Heap}{env:Env}{outer:List Env}{L a:Addr}{oe:Obj}{vs:Array a_}{Q:Unit->d_->Prop}
theorem DK{head:a_}{had:Bool}{fl:Option Addr}(hf:A.frames=some (env::outer))(ff:s.heap.FunFrames B (env::outer))(hL:env.frame=some L)(e0:s.heap.get? a=some oe)(hd:oe.data=.fields vs)(hs:1<vs.size)(q:∀h',Lft (dw (env::outer)) a oe vs none (nP fl) s.heap h'->Q () { heap:=h',gens:=s.gens,drawn:=s.drawn,toks:=s.toks,os:=s.os }) :
  q_ M A (do
   let f <-PySem.frameOf env;let pl <-entryPlaceOf L had;let b <-VL head f Value.none (TD ↑L) Value.none pl
   setField (Value.ref a) 1 b) (fun _ s'=>rW a s'.heap/\q_ M A (SX (Value.ref a) fl) Q E s') E s:=by
 have haf:a∉dw (env::outer):=fun z=>by obtain⟨_,o,e1,nf⟩:=ff.mem z;rw[e0]at e1;cases e1;exact nf vs hd
 refine b_ (wpAny_frameOf_fun hf ff hL fun h2 so=>?_);refine b_ (wpAny_entryPlaceOf fun pl hpl=>?_);obtain⟨so1,so2,so3⟩:=so;have e2:h2.get? a=some oe:=(so2 a haf).trans e0;have key:∀fs:List a_,fs.length<=100->fs[3]? = some (TD ↑L)->q_ M A ((do
   let b <-newFields "traceback" fs
   setField (Value.ref a) 1 b)) (fun _ s'=>rW a s'.heap/\q_ M A (SX (Value.ref a) fl) Q E s') E { heap:=h2,gens:=s.gens,drawn:=s.drawn,toks:=s.toks,os:=s.os }:=fun fs hlen h3=>by
  refine b_ ?_;unfold newFields;have hsz:sizeOk (Data.fields fs.toArray):=by
   show fs.toArray.size<=_;have:fs.toArray.size<=100:=by simpa using hlen
   exact QI this (by decide)
  refine Rx (T := "traceback") (data:=.fields fs.toArray) (dict:=none) ?_ hsz;have hat:a<h2.objs.size:=s_ e2;have htb:h2.get? h2.objs.size=none:=by cases z:h2.get? h2.objs.size with
  |none=>rfl
  |some o=>exact absurd (s_ z) (Ri _)
  have hne:h2.objs.size≠a:=fun z=>by rw[z]at hat;exact absurd hat (Ri _)
  generalize htbn:h2.objs.size=tb at *;have e3:(h2.push { cls:=.type "traceback",dict:=none,data:=.fields fs.toArray }).get? a=some oe:=e_ _ e2;have e3t:(h2.push { cls:=.type "traceback",dict:=none,data:=.fields fs.toArray }).get? tb=some { cls:=.type "traceback",dict:=none,data:=.fields fs.toArray }:=by rw[<-htbn];exact x_ _ rfl
  generalize hh3:h2.push { cls:=.type "traceback",dict:=none,data:=.fields fs.toArray }=h3' at *;refine Sv (a:=a) (o:=oe) (vs:=vs) (i:=1) e3 hd hs ?_;have mf:∀g,QO g oe={ cls:=oe.cls,dict:=oe.dict,data:=.fields (g vs),slots:=oe.slots }:=fun g=>by obtain⟨c,d,da,sl⟩:=oe;have:da=.fields vs:=hd;subst this;rfl
  have e4:=Q4 (h:=h3') (QO fun v=>v.setIfInBounds 1 (.ref tb)) e3 (by rw[mf];rfl);rw[mf]at e4;have e4t:(h3'.update a (QO fun v=>v.setIfInBounds 1 (.ref tb))).get? tb=some { cls:=.type "traceback",dict:=none,data:=.fields fs.toArray }:=by rw[Q5 _ _ _ _ hne];exact e3t
  have e4o:∀b,b≠a->(h3'.update a (QO fun v=>v.setIfInBounds 1 (.ref tb))).get? b=h3'.get? b:=fun b hb=>Q5 _ _ _ _ hb;generalize h3'.update a (QO fun v=>v.setIfInBounds 1 (.ref tb))=h4 at *;refine⟨⟨_,_,tb,e4,rfl,QD hs⟩,?_⟩;unfold SX;refine b_ (QQ (o:={ cls:=oe.cls,dict:=oe.dict,data:=.fields (vs.setIfInBounds 1 (.ref tb)),slots:=oe.slots }) (x:=.ref tb) e4 rfl ?_ ?_)
  .rw[QD hs]
  .rw[if_pos (by rfl)];refine Sv (a:=tb) (vs:=fs.toArray) (i:=3) e4t rfl ?_ ?_
   .have:=(c_.mp h3).1;simpa using this
   have e5:=Q4 (h:=h4) (QO fun v=>v.setIfInBounds 3 (nP fl)) e4t rfl;have e5o:∀b,b≠tb->(h4.update tb (QO fun v=>v.setIfInBounds 3 (nP fl))).get? b=h4.get? b:=fun b hb=>Q5 _ _ _ _ hb;refine q (h4.update tb (QO fun v=>v.setIfInBounds 3 (nP fl))) ⟨fun b o nf ne _ e=>?_,fun b o e nf=>?_,tb,_,_,.inl ?_,hne,?_,e5,rfl,?_⟩
   .have hb2:h2.get? b=some o:=(so2 b nf).trans e;have hbt:b≠tb:=fun z=>by rw[z,htb]at hb2;cases hb2
    rw[e5o b hbt,e4o b ne,<-hh3];exact e_ _ hb2
   .obtain⟨sl,e1⟩:=so3 b o e;have hbt:b≠tb:=fun z=>by rw[z,htb]at e1;cases e1
    have hba:b≠a:=fun z=>by rw[z,e0]at e;cases e;exact nf vs hd
    refine⟨sl,?_⟩;rw[e5o b hbt,e4o b hba,<-hh3];exact e_ _ e1
   .cases z:s.heap.get? tb with
   |none=>rfl
   |some o=>obtain⟨sl,e1⟩:=so3 tb o z;rw[htb]at e1;cases e1
   .rw[e5o a (Sn hne)];exact e4
   .show(fs.toArray.setIfInBounds 3 _)[3]? = _;rw[QD (by have:=(c_.mp h3).1;simpa using this)]
 unfold VL;refine key _ ?_ rfl;rcases hpl with rfl|⟨x1,x2,x3,x4,x5,x6,_,rfl⟩ <;> simp
theorem sS{T fl:Option Addr}(hf:A.frames=some (env::outer))(ff:s.heap.FunFrames B (env::outer))(hL:env.frame=some L)(e0:s.heap.get? a=some oe)(hd:oe.data=.fields vs)(h1:(vs[1]? = some Value.none/\T=none)\/(∃T' oT ts,T=some T'/\vs[1]? = some (.ref T')/\T'≠a/\s.heap.get? T'=some oT/\oT.data=.fields ts/\ts[3]? = some Value.none)\/∃T' oT ts,T=some T'/\vs[1]? = some (.ref T')/\T'≠a/\s.heap.get? T'=some oT/\oT.data=.fields ts/\ts[3]? = some (TD ↑L))(q:∀h',Lft (dw (env::outer)) a oe vs T (nP fl) s.heap h'->Q () { heap:=h',gens:=s.gens,drawn:=s.drawn,toks:=s.toks,os:=s.os }):q_ M A (TZ (.ref a) env) (fun _ s'=>rW a s'.heap/\q_ M A (SX (.ref a) fl) Q E s') E s:=by
 have hs:1<vs.size:=by rcases h1 with⟨z,_⟩|⟨_,_,_,_,z,_⟩|⟨_,_,_,_,z,_⟩ <;> exact(Rf.mp z).1
 unfold TZ;simp only[hL];rcases h1 with⟨z,rfl⟩|⟨T',oT,ts,rfl,z,hTa,eT,hT,h3⟩|⟨T',oT,ts,rfl,z,hTa,eT,hT,h3⟩
 .refine b_ (QQ e0 hd z ?_);rw[if_neg (by decide)];exact DK hf ff hL e0 hd hs q
 .refine b_ (QQ e0 hd z ?_);rw[if_pos (by rfl)];refine b_ (QQ eT hT h3 ?_);rw[if_neg (by intro z;cases z)];have h3s:3<ts.size:=(Rf.mp h3).1;refine b_ (Sv eT hT h3s ?_);have eo:∀b,b≠T'->(s.heap.update T' (QO fun v=>v.setIfInBounds 3 Value.none)).get? b=s.heap.get? b:=fun b hb=>Q5 _ _ _ _ hb;refine DK (s:={ heap:=s.heap.update T' (QO fun v=>v.setIfInBounds 3 Value.none),gens:=s.gens,drawn:=s.drawn,toks:=s.toks,os:=s.os }) hf (ff.of_keeps fun b o e nf=>?_) hL ((eo a (Sn hTa)).trans e0) hd hs fun h' l=>q h' ⟨fun b o nf ne hT' e=>?_,fun b o e nf=>?_,?_⟩
  .have hb:b≠T':=fun z=>by rw[z,eT]at e;cases e;exact nf ts hT
   exact⟨o,(eo b hb).trans e,rfl⟩
  .have hb:b≠T':=fun z=>hT' (by rw[z]);exact l.keep b o nf ne (by simp) ((eo b hb).trans e)
  .have hb:b≠T':=fun z=>by rw[z,eT]at e;cases e;exact nf ts hT
   exact l.slot b o ((eo b hb).trans e) nf
  .obtain⟨tb,ot,ts',t1,t2⟩:=l.obj;refine⟨tb,ot,ts',.inl ?_,t2⟩;have t1:=t1.resolve_right (by simp);by_cases hb:tb=T'
   .have mf:QO (fun v=>v.setIfInBounds 3 Value.none) oT={ cls:=oT.cls,dict:=oT.dict,data:=.fields (ts.setIfInBounds 3 Value.none),slots:=oT.slots }:=by obtain⟨c,d,da,sl⟩:=oT;have:da=.fields ts:=hT;subst this;rfl
    have:=Q4 (h:=s.heap) (QO fun v=>v.setIfInBounds 3 Value.none) eT (by rw[mf];rfl);rw[hb]at t1;exact absurd (t1.symm.trans this) (by simp)
   .exact(eo tb hb).symm.trans t1
 .refine b_ (QQ e0 hd z ?_);rw[if_pos (by rfl)];refine b_ (QQ eT hT h3 ?_);rw[if_pos (by simp)];refine j_ ⟨⟨oe,vs,T',e0,hd,z⟩,?_⟩;have h3s:3<ts.size:=(Rf.mp h3).1;have mf:∀g,QO g oT={ cls:=oT.cls,dict:=oT.dict,data:=.fields (g ts),slots:=oT.slots }:=fun g=>by obtain⟨c,d,da,sl⟩:=oT;have:da=.fields ts:=hT;subst this;rfl
  unfold SX;refine b_ (QQ e0 hd z ?_);rw[if_pos (by rfl)];refine Sv eT hT h3s ?_;have eo:∀b,b≠T'->(s.heap.update T' (QO fun v=>v.setIfInBounds 3 (nP fl))).get? b=s.heap.get? b:=fun b hb=>Q5 _ _ _ _ hb;have es:=Q4 (h:=s.heap) (QO fun v=>v.setIfInBounds 3 (nP fl)) eT (by rw[mf];rfl);rw[mf]at es;refine q _ ⟨fun b o nf ne hT' e=>(eo b fun z=>hT' (by rw[z])).trans e,fun b o e nf=>?_,T',_,_,.inr rfl,hTa,?_,es,rfl,?_⟩
  .have hb:b≠T':=fun z=>by rw[z,eT]at e;cases e;exact nf ts hT
   exact⟨o.slots,(eo b hb).trans e⟩
  .rw[eo a (Sn hTa),e0];obtain⟨c,d,da,sl⟩:=oe;have:da=.fields vs:=hd;subst this;have:vs.setIfInBounds 1 (.ref T')=vs:=by
    apply V0;intro i;rw[Array.getElem?_setIfInBounds];split
    .rename_i h;subst h;exact z.symm
    .rfl
   rw[this]
  .show(ts.setIfInBounds 3 _)[3]? = _;rw[QD h3s]
theorem zL{T:Option Addr}(hf:A.frames=some (env::outer))(ff:s.heap.FunFrames B (env::outer))(hL:env.frame=some L)(e0:s.heap.get? a=some oe)(hd:oe.data=.fields vs)(h1:(vs[1]? = some Value.none/\T=none)\/(∃T' oT ts,T=some T'/\vs[1]? = some (.ref T')/\T'≠a/\s.heap.get? T'=some oT/\oT.data=.fields ts/\ts[3]? = some Value.none)\/∃T' oT ts,T=some T'/\vs[1]? = some (.ref T')/\T'≠a/\s.heap.get? T'=some oT/\oT.data=.fields ts/\ts[3]? = some (TD ↑L))(q:∀h',Lft (dw (env::outer)) a oe vs T Value.none s.heap h'->Q () { heap:=h',gens:=s.gens,drawn:=s.drawn,toks:=s.toks,os:=s.os }):q_ M A (leaving env (.ref a)) Q E s:=b_ (QP (sS (fl:=none) hf ff hL e0 hd h1 q) (fun _ _ z=>z.2) fun _ _ z=>z)
end
def Hm(h B:Heap)(a:Addr)(cls:a_)(od L:Option Addr):Prop:=∃oe vs,h.get? a=some oe/\oe.cls=cls/\(∀dx,od=some dx->oe.dict=some dx)/\oe.data=.fields vs /\(vs[1]? = some Value.none\/(∃T oT ts,vs[1]? = some (.ref T)/\B.get? T=none/\T≠a/\h.get? T=some oT/\oT.data=.fields ts/\ts[3]? = some Value.none) \/∃l T oT ts,L=some l/\vs[1]? = some (.ref T)/\B.get? T=none/\T≠a/\h.get? T=some oT/\oT.data=.fields ts/\ts[3]? = some (TD ↑l))
def nA(st:List Env):Option Addr:=st.head?.bind (·.frame)
structure Fly(P:A_)(w:M_)(st:List Env)(H:Hp)(s:d_)(H':Hp)(a:Addr)(cls:a_)(od:Option Addr)(s':d_):Prop where
 os:s'.os=s.os
 bare:TC s'.gens
 un:Un (dw st) [] H H' s.heap s'.heap
 hok:dR P w H' s'.heap
 ex:∃B:Heap,B.StaysIn s'.heap/\B.get? a=none/\s'.heap.FunFrames B st/\Hm s'.heap B a cls od (nA st) /\(∀b o,s.heap.get? b=some o->b∉dw st->∃o',B.get? b=some o')/\∀b u,H' b=some u->∃o',B.get? b=some o'
section
variable{X:Cx}{pz:List (Addr×Obj)}{σ:L2.St}{H H':Hp}{s s':d_}{a:Addr}{cls:a_}{od:Option Addr}{M:V7}{E:a_->d_->Prop}
theorem Fly.inv(F:Fly X.prog X.w X.stack H s H' a cls od s')(I:Inv X pz σ H s):Inv X pz σ H' s':=I.call' F.os F.un F.hok F.bare fun b z=>absurd z (by simp)
theorem Fly.leaves{Q:Unit->d_->Prop}(F:Fly X.prog X.w X.stack H s H' a cls od s')(I:Inv X pz σ H s)(hst:X.stack=X.env::X.outer)(hfr:X.env.frame=some X.env.locals)(hex:X.ex=[])(q:∀s'',Fly X.prog X.w X.outer X.H₀ X.s₀ H' a cls od s''->Q () s''):q_ M X.A (leaving X.env (.ref a)) Q E s':=by
 have I':=F.inv I;obtain⟨B,hB,hBa,hff,⟨oe,vs,r1,r2,r3,r4,r5⟩,hd,hH⟩:=F.ex;have hfs:dw X.stack=X.env.locals::dw X.outer:=by rw[hst];unfold dw;rw[Rb,hfr]
 have inB:∀b o,X.s₀.heap.get? b=some o->b∉dw X.outer->∃o',B.get? b=some o':=fun b o e n=>by
  obtain⟨o1,e1⟩:=I.base.there b o e (by rw[hex];simp);refine hd b o1 e1 ?_;rw[hfs];intro z;rcases w_.mp z with z|z
  .have h1:=s_ e;have h2:=I.ok.above;rw[z]at h1;exact absurd h1 (Nat.not_lt.mpr h2)
  .exact n z
 rw[hst]at hff;have fin:∀(T:Option Addr) h',(∀b,T=some b->B.get? b=none)->Lft (dw (X.env::X.outer)) a oe vs T Value.none s'.heap h'->Q () { heap:=h',gens:=s'.gens,drawn:=s'.drawn,toks:=s'.toks,os:=s'.os }:=fun T h' hT l=>by
  have same:∀b o,(∃o',B.get? b=some o')->s'.heap.get? b=some o->h'.get? b=some o:=fun b o ⟨o',e⟩ h=>by refine l.keep b o (fun z=>?_) (fun z=>by rw[z,hBa]at e;cases e) (fun z=>by rw[hT b z]at e;cases e) h;rw[(hff.mem z).1]at e;cases e
  have hso:=(show X.env.scope.kind≠ScopeKind.module/\(∃L o,X.env.frame=some L/\B.get? L=none/\s'.heap.get? L=some o/\∀(vs:Array a_),o.data≠Data.fields vs)/\s'.heap.FunFrames B X.outer by unfold TK at hff;exact hff).2.2;have ho:h'.FunFrames B X.outer:=hso.of_keeps fun b o e nf=>by obtain⟨sl,e1⟩:=l.slot b o e nf;exact⟨_,e1,rfl⟩
  obtain⟨tb,ot,ts,t1,t2,t3,t4,t5,t6⟩:=l.obj;have htB:B.get? tb=none:=by
   rcases t1 with t1|t1
   .cases z:B.get? tb with
   |none=>rfl
   |some o=>have:=hB tb o z;rw[t1]at this;cases this
   .exact hT tb t1
  have hs1:1<vs.size:=by rcases r5 with z|⟨_,_,_,z,_⟩|⟨_,_,_,_,_,z,_⟩ <;> exact(Rf.mp z).1
  refine q _ ⟨I'.os,F.bare,⟨fun b o e n f z=>?_,fun b o e n f z=>?_,fun b o e n z=>?_,fun b o e z=>?_,I'.base.tups,I'.base.frzs,I'.base.tbls⟩,fun b u e=>?_,B,fun b o e=>same b o ⟨o,e⟩ (hB b o e),hBa,ho,⟨_,_,t3,r2,r3,rfl,.inr (.inl ⟨tb,ot,ts,QD hs1,htB,t2,t4,t5,t6⟩)⟩,inB,hH⟩
  .exact same b o (inB b o e f) (I'.base.keep b o e n f (by rw[hex];exact z))
  .obtain⟨sl,e1⟩:=I'.base.slot b o e n f (by rw[hex];exact z);obtain⟨_,o2,e2,nf⟩:=hso.mem f;rw[e1]at e2;cases e2;obtain⟨sl2,e3⟩:=l.slot b _ e1 nf;exact⟨sl2,e3⟩
  .exact I'.base.free b o e n (by rw[hex];exact z)
  .obtain⟨o1,e1⟩:=I'.base.there b o e (by rw[hex];exact z);by_cases f:b∈dw X.outer
   .obtain⟨_,o2,e2,nf⟩:=hso.mem f;obtain⟨sl,e3⟩:=l.slot b _ e2 nf;exact⟨_,e3⟩
   .exact⟨o1,same b o1 (inB b o e f) e1⟩
  .refine(F.hok b u e).stay (fun c v hc e1=>same c v ?_ e1) (fun _ z=>z) fun _ _ z=>z;rcases hc with hc|hc
   .rw[hc];exact hH b u e
   .exact hH c _ hc
 rcases r5 with z|⟨T,oT,ts,z1,z2,z3,z4,z5,z6⟩|⟨l,T,oT,ts,zl,z1,z2,z3,z4,z5,z6⟩
 .exact zL (T:=none) (by rw[I.ok.frames,hst]) hff hfr r1 r4 (.inl ⟨z,rfl⟩) fun h' l=>fin none h' (fun b e=>nomatch e) l
 .exact zL (T:=some T) (by rw[I.ok.frames,hst]) hff hfr r1 r4 (.inr (.inl ⟨T,oT,ts,rfl,z1,z3,z4,z5,z6⟩)) fun h' l=>fin (some T) h' (fun b e=>by cases e;exact z2) l
 .have hl:l=X.env.locals:=by unfold nA at zl;rw[hst]at zl;exact(z_ (hfr.symm.trans (show X.env.frame=some l from zl))).symm
  subst hl;exact zL (T:=some T) (by rw[I.ok.frames,hst]) hff hfr r1 r4 (.inr (.inr ⟨T,oT,ts,rfl,z1,z3,z4,z5,z6⟩)) fun h' l=>fin (some T) h' (fun b e=>by cases e;exact z2) l
end
def mz(P:A_)(w:M_):gY:=fun outer H s E e s'=>∃a cls H' od,e=.ref a/\Fly P w outer H s H' a cls od s'/\E cls od H'
theorem sy{P:A_}{w:M_}{H:Hp}{h:Heap}{a:Addr}{o:HO}(x:dz P w H h a o):∃u,h.get? a=some u:=by cases o with
|lst xs=>obtain⟨_,_,_,_,e⟩:=x;exact⟨_,e⟩
|tup xs=>obtain⟨_,_,_,_,o,e,_⟩:=x;exact⟨_,e⟩
|dK kvs=>obtain⟨_,_,_,_,o,_,_,e,_⟩:=x;exact⟨_,e⟩
|dT kvs=>obtain⟨_,_,_,_,o,_,_,e,_⟩:=x;exact⟨_,e⟩
|set S n=>obtain⟨o,_,_,_,e,_⟩:=x;exact⟨_,e⟩
|ins C dx fs=>obtain⟨_,_,_,e,_⟩:=x;exact⟨_,e⟩
|own y=>exact x
|xd fs=>obtain⟨_,⟨_,_,_,e,_⟩,_⟩:=x;exact⟨_,e⟩
|rng lo hi=>obtain⟨_,_,_,e⟩:=x;exact⟨_,e⟩
|frz ob u=>obtain⟨e,_⟩:=x;exact⟨_,e⟩
|tbl ps=>exact⟨_,(show h.get? a=some _ from x)⟩
|met f y=>exact⟨_,(show h.get? a=some _ from x)⟩
|ext φ=>exact x.2.1
abbrev gp:List a_:=[Value.type "ValueError",Value.type "Exception",Value.type "BaseException",Value.type "object"]
theorem yW{h:Heap}{bmB bm:List a_}{v:a_}(t:Ve h bmB bm)(hb:bmB.contains v=true):bm.contains v=true:=by induction t with
|base=>exact hb
|own _ _ _ _ ih=>rw[R8,ih,TM]
theorem JV{K:W.Frag}{h:Heap}{C:Addr}{bmB:List a_}{newId:String}(k:K.In h)(e:excIn K C bmB newId=true):∃bm N nm q bs hdct sn sub ab col dd k0 k1 k2 k3 k5 mN,h.get? C=some (Q2 nm q C N bs bm hdct sn sub ab col dd k0 k1 k2 k3 k5 newId)/\h.Ns N mN/\mN (l_ "__init__")=none/\Ve h bmB bm:=by
 unfold excIn at e;split at e
 .rename_i dict cd sl hk;split at e
  .rename_i C' bm k0 k1 k2 k3 n k5 hm hs;simp only[J_,beq_iff_eq,S2]at e;obtain⟨⟨⟨⟨⟨rfl,rfl⟩,hd⟩,ht⟩,hn⟩,hi⟩:=e;have hns:=Xg k hn;obtain⟨nm,bs,mro,ns,q,hdct,sn,sub,ab,col,hdel⟩:=cd;have e1:mro=Value.ref C'::bm:=hm;have e2:hdel=false:=hd;subst e1 e2;have e3:sl = #[k0,k1,k2,k3,some (Value.builtin n),k5]:=by cases sl with
   |mk l=>exact congrArg Array.mk hs
   subst e3;exact⟨bm,ns,nm,q,bs,hdct,sn,sub,ab,col,dict,k0,k1,k2,k3,k5,h.nsMap ns,k _ _ hk,Vk hns,nsMap_none_of_in k hn hi,tail_of_in k ht⟩
  .cases e
 .cases e
structure XC(K:W.Frag)(mg:Str->Option a_)(x:Str)(C:Addr):Prop where
 bound:mg x=some (.ref C)
 exc:excIn K C gp "ValueError.__new__" = true
section
variable{X:Cx}{pz:List (Addr×Obj)}{σ:L2.St}{H:Hp}{s:d_}{x:Str}{C:Addr}{np cpos pos:Pos}{e₀:Expr}{rest:List Expr}{t:TA}
theorem Fly.made{h':Heap}{e:Addr}{cls:a_}{vs:List a_}(I:Inv X pz σ H s)(m:s.heap.MadeExcOf h' e cls vs):Fly X.prog X.w X.stack H s H e cls none { heap:=h',gens:=s.gens,drawn:=s.drawn,toks:=s.toks,os:=s.os }:=by
 obtain⟨t,m1,m2,m3⟩:=m.there;have hst:∀b o,(Wc s.heap (dw X.stack)).get? b=some o->h'.get? b=some o:=fun b o e=>m.keeps b o (Xh _ e);refine⟨rfl,I.bare,Un.kept m.keeps,I.hok.kept m.keeps,Wc s.heap (dw X.stack),hst,?_,?_,⟨_,_,m1,rfl,(fun _ e=>nomatch e),rfl,.inl rfl⟩,fun b o e n=>⟨o,Vu _ e n⟩,fun b u e=>?_⟩
 .cases q:(Wc s.heap (dw X.stack)).get? e with
 |none=>rfl
 |some o=>have:=Xh _ q;rw[m.new]at this;cases this
 .have ff:=I.stack;have key:∀l:List Env,(∀b∈dw l,b∈dw X.stack)->s.heap.FunFrames X.base l->h'.FunFrames (Wc s.heap (dw X.stack)) l:=by
   intro l
   induction l with
  |nil=>intro _ _;unfold TK;trivial
  |cons env l ih=>
    intro hs hf;unfold TK at hf ⊢;obtain⟨f1,⟨L,o,f2,f3,f4,f5⟩,f6⟩:=hf;refine⟨f1,⟨L,o,f2,Wd _ (hs L ?_),m.keeps _ _ f4,f5⟩,ih (fun b hb=>hs b ?_) f6⟩
    .unfold dw;rw[Rb,f2];exact k_
    .unfold dw;rw[Rb,f2];exact m_ _ hb
  exact key X.stack (fun _ hb=>hb) ff
 .obtain⟨o,eo⟩:=sy (I.hok b u e);exact⟨o,Vu _ eo fun z=>by rw[I.stkFree b z]at e;cases e⟩
theorem ME{Q:Flow->d_->Prop}(I:Inv X pz σ H s)(hc:X.calm=true)(c:XC X.K X.mg x C)(hg:Gl X x)(ha:PA X (e₀::rest) t)(h:t σ H fun vs H1=>vs.length<=sizeLine/\∀s1 a s',Inv X pz σ H1 s1->Fly X.prog X.w X.stack H1 s1 H1 a (.ref C) none s'->X.xe (.ref a) s')(hdb:(x==("__debug__" : Str))=false:=by decide)(he:h_ (e₀::rest) X.env=(false,eval e₀ X.env)::h_ rest X.env:=by rfl)(hpl:(backTo cpos (h_ rest X.env)).any (·.1)=false:=by rfl):q_ (D_ X.prog X.w) X.A (exec (.Raise (some (.Call (.Name x np) (e₀::rest) [] cpos)) none pos) X.env) Q X.xe s:=by
 obtain⟨bm,N,nm,q,bs,hdct,sn,sub,ab,col,dd,k0,k1,k2,k3,k5,mN,c1,c2,c3,c4⟩:=JV I.ok.mod.kin c.exc;refine wpAny_Raise_call_subT (nm:=nm) (q:=q) (C:=C) (N:=N) (bs:=bs) (bm:=bm) (hdct:=hdct) (sn:=sn) (sub:=sub) (ab:=ab) (col:=col) (dd:=dd) (k0:=k0) (k1:=k1) (k2:=k2) (k3:=k3) (k5:=k5) (mN:=mN) F.excBase_ValueError (yW c4 (by decide+kernel)) (I.ok.hd hc) ?_ c3 ?_
 .rw[he];exact hpl
 refine l7 I hg c.bound ⟨rfl,?_⟩ hdb;rw[he];refine evalArgs_plain ?_;have hp:=ha cpos pz s σ H _ I h;rw[he]at hp;refine bU hp fun us s1 ⟨vs,H1,I1,r,hl,q⟩=>⟨rfl,?_,I1.bk _ _ c1,?_,?_,fun h' e m=>q s1 e _ I1 (Fly.made I1 m)⟩
 .show us.length<=sizeLine;rw[<-r.length];exact hl
 .exact c2.keeps I1.bk
 .exact c4.keeps I1.bk
end
end DL
namespace DL
open PySem PySem.Spec PyProof.Rows L2
inductive D where
 |non|bl (b:Bool)|int (i:Int)|str (x:Str)
 |tup (ds:List D)|lst (ds:List D)
 |dic (kvs:List (bQ×D))
 |obj (c:Nat) (fs:List (Str×D))
instance:Inhabited D:=⟨.non⟩
inductive Res(α:Type) where
 |ok (a:α)|exc (x:D)|stuck
def Res.bind{α β:Type}(r:Res α)(f:α->Res β):Res β:=match r with
|.ok a=>f a
|.exc x=>.exc x
|.stuck=>.stuck
@[simp] theorem bind_ok{α β:Type}(a:α)(f:α->Res β):(Res.ok a).bind f=f a:=rfl
@[simp] theorem bind_exc{α β:Type}(x:D)(f:α->Res β):(Res.exc x:Res α).bind f=.exc x:=rfl
@[simp] theorem bind_stuck{α β:Type}(f:α->Res β):(Res.stuck:Res α).bind f=.stuck:=rfl
def fin{α:Type}(r:Res α)(q:α->Prop)(x:D->Prop):Prop:=match r with
|.ok a=>q a
|.exc e=>x e
|.stuck=>False
theorem cY{α:Type}{r:Res α}{q q':α->Prop}{x:D->Prop}(h:fin r q x)(hq:∀a,q a->q' a):fin r q' x:=by cases r with
|ok a=>exact hq a h
|exc e=>exact h
|stuck=>exact h
theorem c6{α β:Type}{r:Res α}{f:α->Res β}{q:β->Prop}{x:D->Prop}(h:fin (r.bind f) q x):fin r (fun a=>fin (f a) q x) x:=by cases r with
|ok a=>exact h
|exc e=>exact h
|stuck=>exact h
abbrev GH:=Addr->Option D
inductive Scl:V->D->Prop where
 |non:Scl .non .non
 |bl (b:Bool):Scl (.bl b) (.bl b)
 |int (i:Int):Scl (.int i) (.int i)
 |str (x:Str):Scl (.str x) (.str x)
inductive KC(K:W.Frag)(a:Addr):D->Prop where
|lst {xs:List V} {ds:List D}:c7 K (fun _=>none) a xs->Paired Scl xs ds->KC K a (.lst ds)
|tup {xs:List V} {ds:List D}:dQ K (fun _=>none) a xs->Paired Scl xs ds->(∃o,K.lookup a=some o/\o.cls=.type "tuple"/\o.dict=none)->KC K a (.tup ds)
inductive RG(K:W.Frag)(G:GH):V->D->Prop where
 |scl {v:V} {d:D}:Scl v d->RG K G v d
 |ref {a:Addr} {d:D}:G a=some d->RG K G (.ref a) d
 |kc {a:Addr} {d:D}:KC K a d->RG K G (.ref a) d
abbrev dy(K:W.Frag)(G:GH):List V->List D->Prop:=Paired (RG K G)
abbrev gK(K:W.Frag)(G:GH):List (bQ×V)->List (bQ×D)->Prop:=Paired fun p q=>p.1=q.1/\RG K G p.2 q.2
abbrev xD(nm:Str)(ds:List (Str×D)):D:=.obj 0 (("__class__",.str nm)::ds)
def XN(K:W.Frag)(nm:Str)(C:Addr):Prop:=∃o cd,K.lookup C=some o/\o.data=Data.cls cd/\cd.name=nm
def jB(a C:Addr)(od:Option Addr):Heap->Prop:=fun h=>∃oe vs,h.get? a=some oe/\oe.cls=.ref C/\(∀dx,od=some dx->oe.dict=some dx)/\oe.data=.fields vs
def XF(G:GH)(od:Option Addr)(ds:List (Str×D)):Prop:=match od with
|none=>ds=[]
|some dx=>G dx=some (.obj 1 ds)
theorem XF.mono{G G':GH}{od:Option Addr}{ds:List (Str×D)}(h:XF G od ds)(ge:∀a d,G a=some d->G' a=some d):XF G' od ds:=by cases od with
|none=>exact h
|some dx=>exact ge _ _ h
abbrev BE(K:W.Frag)(G:GH):List (Str×V)->List (Str×D)->Prop:=Paired fun p q=>p.1=q.1/\RG K G p.2 q.2
inductive OB(K:W.Frag)(G:GH)(H:Hp)(a:Addr):D->Prop where
 |lst {xs:List V} {ds:List D}:Rd H a (.lst xs)->dy K G xs ds->OB K G H a (.lst ds)
 |tup {xs:List V} {ds:List D}:Rd H a (.tup xs)->dy K G xs ds->OB K G H a (.tup ds)
 |dic {ob:Obj} {ps:List (bQ×V)} {kvs:List (bQ×D)}:H a=some (.frz ob (.dK ps))->gK K G ps kvs->OB K G H a (.dic kvs)
 |exc {nm:Str} {C:Addr} {od:Option Addr} {ds:List (Str×D)}:H a=some (.ext (jB a C od))->XN K nm C->XF G od ds->OB K G H a (xD nm ds)
 |fld {fs:List (Str×V)} {ds:List (Str×D)}:H a=some (.xd fs)->BE K G fs ds->OB K G H a (.obj 1 ds)
def bZ(K:W.Frag)(G:GH)(H:Hp):Prop:=∀a d,G a=some d->OB K G H a d
inductive OwnO(K:W.Frag)(G:GH)(H:Hp)(a:Addr):D->Prop where
 |lst {xs:List V} {ds:List D}:H a=some (.lst xs)->dy K G xs ds->OwnO K G H a (.lst ds)
 |dic {ps:List (bQ×V)} {kvs:List (bQ×D)}:H a=some (.dK ps)->gK K G ps kvs->OwnO K G H a (.dic kvs)
structure Own(K:W.Frag)(G:GH)(H:Hp)(a:Addr)(d:D):Prop where
 un:G a=none
 ob:OwnO K G H a d
structure Grow(K:W.Frag)(G:GH)(H:Hp)(G':GH)(H':Hp):Prop where
 ok:bZ K G' H'
 he:∀a o,H a=some o->H' a=some o
 ge:∀a d,G a=some d->G' a=some d
 gf:∀a,H a≠none->G' a=G a
section
variable{K:W.Frag}{G G' G1 G2:GH}{H H' H1 H2:Hp}{a p:Addr}{d:D}{v:V}
theorem Rd.mono{u:HO}(h:Rd H a u)(he:∀a o,H a=some o->H' a=some o):Rd H' a u:=by
 rcases h with h|⟨o,h⟩
 .exact .inl (he _ _ h)
 .exact .inr ⟨o,he _ _ h⟩
theorem Rd.isS{u:HO}(h:Rd H a u):H a≠none:=by rcases h with h|⟨o,h⟩ <;> rw[h] <;> simp
theorem RG.mono(h:RG K G v d)(ge:∀a d,G a=some d->G' a=some d):RG K G' v d:=by cases h with
|scl s=>exact .scl s
|ref e=>exact .ref (ge _ _ e)
|kc k=>exact .kc k
theorem dy.mono{xs:List V}{ds:List D}(h:dy K G xs ds)(ge:∀a d,G a=some d->G' a=some d):dy K G' xs ds:=Paired.mono (fun _ _ r=>r.mono ge) h
theorem gK.mono{xs:List (bQ×V)}{ds:List (bQ×D)}(h:gK K G xs ds)(ge:∀a d,G a=some d->G' a=some d):gK K G' xs ds:=Paired.mono (fun _ _ r=>⟨r.1,r.2.mono ge⟩) h
theorem OB.mono(h:OB K G H a d)(ge:∀a d,G a=some d->G' a=some d)(he:∀o,H a=some o->H' a=some o):OB K G' H' a d:=by
 have rd:∀{u:HO},Rd H a u->Rd H' a u:=fun r=>by
  rcases r with r|⟨o,r⟩
  .exact .inl (he _ r)
  .exact .inr ⟨o,he _ r⟩
 cases h with
|lst r s=>exact .lst (rd r) (s.mono ge)
|tup r s=>exact .tup (rd r) (s.mono ge)
|dic r s=>exact .dic (he _ r) (gK.mono s ge)
|exc r n f=>exact .exc (he _ r) n (f.mono ge)
|fld r s=>exact .fld (he _ r) (Paired.mono (fun _ _ r=>⟨r.1,r.2.mono ge⟩) s)
theorem OB.isS(h:OB K G H a d):H a≠none:=by cases h with
|lst r s=>exact Rd.isS r
|tup r s=>exact Rd.isS r
|dic r s=>rw[r];simp
|exc r n f=>rw[r];simp
|fld r s=>rw[r];simp
theorem bZ.isN(g:bZ K G H)(h:H p=none):G p=none:=by cases e:G p with
|none=>rfl
|some d=>exact absurd h (g p d e).isS
theorem OwnO.isS(h:OwnO K G H a d):H a≠none:=by cases h with
|lst r s=>rw[r];simp
|dic r s=>rw[r];simp
theorem OwnO.mono(h:OwnO K G H a d)(ge:∀a d,G a=some d->G' a=some d)(he:∀o,H a=some o->H' a=some o):OwnO K G' H' a d:=by cases h with
|lst r s=>exact .lst (he _ r) (s.mono ge)
|dic r s=>exact .dic (he _ r) (gK.mono s ge)
theorem Own.mono(h:Own K G H a d)(w:Grow K G H G' H'):Own K G' H' a d:=⟨by rw[w.gf a h.ob.isS];exact h.un,h.ob.mono w.ge fun o e=>w.he _ _ e⟩
def fz(H:Hp)(a:Addr)(ob:Obj):Hp:=match H a with
|some (.dK ps)=>upd H a (.frz ob (.dK ps))
|_=>H
theorem pH{b:Addr}{ob:Obj}(h:b≠a):fz H a ob b=H b:=by unfold fz;cases e:H a with
|none=>rfl
|some u=>cases u <;> first|rfl|exact cM h
theorem Iw{xs:List V}{ob:Obj}(h:H a=some (.lst xs)):fz H a ob=H:=by unfold fz;rw[h]
theorem Iv{ps:List (bQ×V)}{ob:Obj}(h:H a=some (.dK ps)):fz H a ob a=some (.frz ob (.dK ps)):=by unfold fz;rw[h];exact du
theorem OwnO.fast(h:OwnO K G H a d)(ob:Obj):OB K G (fz H a ob) a d:=by cases h with
|lst r s=>rw[Iw r];exact .lst (.inl r) s
|dic r s=>exact .dic (Iv r) s
theorem bZ.fast(g:bZ K G H)(hn:G a=none)(ob:Obj):bZ K G (fz H a ob):=fun b d e=>by
 have hb:b≠a:=by rintro rfl;rw[hn]at e;cases e
 exact(g b d e).mono (fun _ _ z=>z) fun o z=>by rw[pH hb];exact z
theorem Grow.refl(g:bZ K G H):Grow K G H G H:=⟨g,fun _ _ e=>e,fun _ _ e=>e,fun _ _=>rfl⟩
theorem Grow.trans(x:Grow K G H G1 H1)(y:Grow K G1 H1 G2 H2):Grow K G H G2 H2:=
 ⟨y.ok,fun a o e=>y.he _ _ (x.he _ _ e),fun a d e=>y.ge _ _ (x.ge _ _ e),fun a h=>by
  have h1:H1 a≠Option.none:=by cases e:H a with
  |none=>exact absurd e h
  |some o=>rw[x.he _ _ e];simp
  rw[y.gf a h1,x.gf a h]⟩
def gset(G:GH)(a:Addr)(d:D):GH:=fun b=>if b=a then some d else G b
theorem fU:gset G a d a=some d:=if_pos rfl
theorem gl{b:Addr}(h:b≠a):gset G a d b=G b:=if_neg h
theorem gU(hn:G a=none):∀b e,G b=some e->gset G a d b=some e:=fun b e h=>by
 have:b≠a:=by rintro rfl;rw[hn]at h;cases h
 rw[gl this];exact h
theorem bZ.gset(g:bZ K G H)(hn:G a=none)(o:OB K G H a d):bZ K (gset G a d) H:=fun b e h=>by
 by_cases hb:b=a
 .subst hb;rw[fU]at h;cases h;exact o.mono (gU hn) fun _ q=>q
 .rw[gl hb]at h;exact(g b e h).mono (gU hn) fun _ q=>q
theorem xE(hn:H p=none){o:HO}:∀a u,H a=some u->upd H p o a=some u:=fun a u e=>by rw[cM (mi e hn)];exact e
theorem Grow.new(g:bZ K G H)(hn:H p=none)(o:HO):Grow K G H G (upd H p o):=⟨fun a d e=>(g a d e).mono (fun _ _ q=>q) fun u q=>xE hn _ _ q,fun a u e=>xE hn _ _ e,fun _ _ e=>e,fun _ _=>rfl⟩
theorem Grow.newF(g:bZ K G H)(hn:H p=none){o:HO}(ob:OB K G (upd H p o) p d):Grow K G H (gset G p d) (upd H p o):=by have w:=Grow.new g hn o;have gn:=g.isN hn;exact⟨w.ok.gset gn ob,w.he,fun a e h=>gU gn a e h,fun a h=>gl (by rintro rfl;exact h hn)⟩
theorem Grow.frz(w:Grow K G H G' H')(hn:H a=none)(o:Own K G' H' a d)(ob:Obj):Grow K G H (gset G' a d) (fz H' a ob):=⟨(w.ok.fast o.un ob).gset o.un (o.ob.fast ob),fun b u e=>by rw[pH (by rintro rfl;rw[hn]at e;cases e)];exact w.he b u e,fun b e h=>gU o.un b e (w.ge b e h),fun b h=>by rw[gl (by rintro rfl;exact h hn)];exact w.gf b h⟩
theorem RG.lst{ds:List D}(g:bZ K G H)(h:RG K G v (.lst ds)):∃a xs,v=.ref a/\c7 K H a xs/\dy K G xs ds:=by cases h with
|scl s=>cases s
|ref e=>cases g _ _ e with
 |lst r s=>exact⟨_,_,rfl,.inl r,s⟩
|kc k=>cases k with
 |lst r s=>
   refine⟨_,_,rfl,?_,Paired.mono (fun _ _ z=>.scl z) s⟩;rcases r with(r|⟨o,r⟩)|r
   .cases r
   .cases r
   .exact .inr r
theorem RG.tup{ds:List D}(g:bZ K G H)(h:RG K G v (.tup ds)):∃a xs,v=.ref a/\dQ K H a xs/\dy K G xs ds:=by cases h with
|scl s=>cases s
|ref e=>cases g _ _ e with
 |tup r s=>exact⟨_,_,rfl,.inl r,s⟩
|kc k=>cases k with
 |tup r s _=>
   refine⟨_,_,rfl,?_,Paired.mono (fun _ _ z=>.scl z) s⟩;rcases r with(r|⟨o,r⟩)|r
   .cases r
   .cases r
   .exact .inr r
theorem RG.dic{kvs:List (bQ×D)}(g:bZ K G H)(h:RG K G v (.dic kvs)):∃a ps,v=.ref a/\Rd H a (.dK ps)/\gK K G ps kvs:=by cases h with
|scl s=>cases s
|ref e=>cases g _ _ e with
 |dic r s=>exact⟨_,_,rfl,.inr ⟨_,r⟩,s⟩
|kc k=>cases k
theorem RG.int{i:Int}(g:bZ K G H)(h:RG K G v (.int i)):v=.int i:=by cases h with
|scl s=>cases s;rfl
|ref e=>cases g _ _ e
|kc k=>cases k
theorem RG.str{x:Str}(g:bZ K G H)(h:RG K G v (.str x)):v=.str x:=by cases h with
|scl s=>cases s;rfl
|ref e=>cases g _ _ e
|kc k=>cases k
theorem RG.bl{b:Bool}(g:bZ K G H)(h:RG K G v (.bl b)):v=.bl b:=by cases h with
|scl s=>cases s;rfl
|ref e=>cases g _ _ e
|kc k=>cases k
theorem RG.non(g:bZ K G H)(h:RG K G v .non):v=.non:=by cases h with
|scl s=>cases s;rfl
|ref e=>cases g _ _ e
|kc k=>cases k
def RB(K:W.Frag)(G:GH)(H:Hp)(v:V)(d:D):Prop:=RG K G v d\/∃a,v=.ref a/\Own K G H a d
theorem RG.rb(h:RG K G v d):RB K G H v d:=.inl h
theorem RB.mono(h:RB K G H v d)(w:Grow K G H G' H'):RB K G' H' v d:=by
 rcases h with h|⟨a,e,h⟩
 .exact .inl (h.mono w.ge)
 .exact .inr ⟨a,e,h.mono w⟩
theorem RB.lst{ds:List D}(g:bZ K G H)(h:RB K G H v (.lst ds)):∃a xs,v=.ref a/\c7 K H a xs/\dy K G xs ds:=by
 rcases h with h|⟨a,e,h⟩
 .exact h.lst g
 .cases h.ob with
 |lst r s=>exact⟨a,_,e,c7.of r,s⟩
theorem RB.tup{ds:List D}(g:bZ K G H)(h:RB K G H v (.tup ds)):∃a xs,v=.ref a/\dQ K H a xs/\dy K G xs ds:=by
 rcases h with h|⟨a,e,h⟩
 .exact h.tup g
 .cases h.ob
theorem RB.dic{kvs:List (bQ×D)}(g:bZ K G H)(h:RB K G H v (.dic kvs)):∃a ps,v=.ref a/\Rd H a (.dK ps)/\gK K G ps kvs:=by
 rcases h with h|⟨a,e,h⟩
 .exact h.dic g
 .cases h.ob with
 |dic r s=>exact⟨a,_,e,.inl r,s⟩
theorem RB.int{i:Int}(g:bZ K G H)(h:RB K G H v (.int i)):v=.int i:=by
 rcases h with h|⟨a,e,h⟩
 .exact h.int g
 .cases h.ob
theorem RB.str{x:Str}(g:bZ K G H)(h:RB K G H v (.str x)):v=.str x:=by
 rcases h with h|⟨a,e,h⟩
 .exact h.str g
 .cases h.ob
theorem RB.bl{b:Bool}(g:bZ K G H)(h:RB K G H v (.bl b)):v=.bl b:=by
 rcases h with h|⟨a,e,h⟩
 .exact h.bl g
 .cases h.ob
theorem RB.non(g:bZ K G H)(h:RB K G H v .non):v=.non:=by
 rcases h with h|⟨a,e,h⟩
 .exact h.non g
 .cases h.ob
theorem Paired.get{α β:Type}{F:α->β->Prop}:∀{l:List α}{r:List β}{i:Nat}{b:β},Paired F l r->r[i]? = some b->∃a,l[i]? = some a/\F a b
|_,_,_,_,.nil,e=>by simp at e
|_,_,0,_,.cons h _,e=>by simp at e;subst e;exact⟨_,rfl,h⟩
|_,_,i+1,b,.cons _ t,e=>by obtain⟨a,h1,h2⟩:=Paired.get (i:=i) t (by simpa using e);exact⟨a,by simpa using h1,h2⟩
theorem Paired.app{α β:Type}{F:α->β->Prop}{l l':List α}{r r':List β}(h:Paired F l r)(q:Paired F l' r'):Paired F (l++l') (r++r'):=by induction h with
|nil=>exact q
|cons h _ ih=>exact .cons h ih
theorem Paired.tk{α β:Type}{F:α->β->Prop}{l:List α}{r:List β}(n:Nat)(h:Paired F l r):Paired F (l.take n) (r.take n):=by induction h generalizing n with
|nil=>cases n <;> exact .nil
|cons h _ ih=>cases n with
 |zero=>exact .nil
 |succ n=>exact .cons h (ih n)
theorem Paired.dr{α β:Type}{F:α->β->Prop}{l:List α}{r:List β}(n:Nat)(h:Paired F l r):Paired F (l.drop n) (r.drop n):=by induction h generalizing n with
|nil=>cases n <;> exact .nil
|cons h t ih=>cases n with
 |zero=>exact .cons h t
 |succ n=>exact ih n
theorem Paired.st{α β:Type}{F:α->β->Prop}{a:α}{b:β}(h:F a b){l:List α}{r:List β}(n:Nat)(p:Paired F l r):Paired F (l.set n a) (r.set n b):=by induction p generalizing n with
|nil=>exact .nil
|cons q t ih=>cases n with
 |zero=>exact .cons h t
 |succ n=>exact .cons q (ih n)
end
inductive Md where
 |sh|ow|bw
 deriving DecidableEq
abbrev aS:=List (Option D)
structure GE where
 gh:GH
 h0:Hp
 hd:Nat->Option (Option V×Option D)
def Bw(K:W.Frag)(h0:Hp)(G:GH)(H:Hp)(v:V)(d:D):Prop:=RG K G v d\/∃a,v=V.ref a/\Own K G H a d/\h0 a≠none
theorem Bw.grow{K:W.Frag}{h0:Hp}{G G':GH}{H H':Hp}{v:V}{d:D}(h:Bw K h0 G H v d)(w:Grow K G H G' H'):Bw K h0 G' H' v d:=by
 rcases h with h|⟨a,e,h1,h2⟩
 .exact .inl (h.mono w.ge)
 .exact .inr ⟨a,e,h1.mono w,h2⟩
theorem Bw.rb{K:W.Frag}{h0:Hp}{G:GH}{H:Hp}{v:V}{d:D}(h:Bw K h0 G H v d):RB K G H v d:=by
 rcases h with h|⟨a,e,h1,h2⟩
 .exact .inl h
 .exact .inr ⟨a,e,h1⟩
def Lk(r:aS)(st:L2.St)(i:Nat)(o:Option V×Option D):Prop:=st[i]? = some o.1/\∀d,r[i]? = some (some d)->o.2=some d
structure SI(X:Cx)(g:GE)(m:List Md)(r:aS)(G:GH)(st:L2.St)(H:Hp):Prop where
 gok:bZ X.K G H
 old:∀a o,g.h0 a=some o->H a=some o
 ge:∀a d,g.gh a=some d->G a=some d
 gf:∀a,g.h0 a≠none->G a=g.gh a
 lm:m.length=st.length
 lr:r.length=st.length
 sh:∀(i:Nat) d,r[i]? = some (some d)->m[i]? = some .sh->∃v,st[i]? = some (some v)/\RG X.K G v d
 ow:∀(i:Nat) d,r[i]? = some (some d)->m[i]? = some .ow->∃a,st[i]? = some (some (V.ref a))/\Own X.K G H a d/\g.h0 a=none
 bw:∀(i:Nat) d,r[i]? = some (some d)->m[i]? = some .bw->∃v,st[i]? = some (some v)/\Bw X.K g.h0 G H v d
 dis:∀(i j:Nat) a d e,i≠j->r[i]? = some (some d)->r[j]? = some (some e)->m[i]? = some .ow->m[j]? = some .ow->st[i]? = some (some (V.ref a))->st[j]? = some (some (V.ref a))->False
 lk:∀(i:Nat) o,g.hd i=some o->m[i]? = some .bw->Lk r st i o
section
variable{X:Cx}{g:GE}{m:List Md}{r:aS}{G G':GH}{st:L2.St}{H H':Hp}
theorem SI.grow(s:SI X g m r G st H)(w:Grow X.K G H G' H'):SI X g m r G' st H' where
 gok:=w.ok
 old:=fun a o e=>w.he _ _ (s.old a o e)
 ge:=fun a d e=>w.ge _ _ (s.ge a d e)
 gf:=fun a h=>by
  have h1:H a≠none:=by cases e:g.h0 a with
  |none=>exact absurd e h
  |some o=>rw[s.old _ _ e];simp
  rw[w.gf a h1,s.gf a h]
 lm:=s.lm
 lr:=s.lr
 sh:=fun i d h1 h2=>by obtain⟨v,h3,h4⟩:=s.sh i d h1 h2;exact⟨v,h3,h4.mono w.ge⟩
 ow:=fun i d h1 h2=>by obtain⟨a,h3,h4,h5⟩:=s.ow i d h1 h2;exact⟨a,h3,h4.mono w,h5⟩
 bw:=fun i d h1 h2=>by obtain⟨v,h3,h4⟩:=s.bw i d h1 h2;exact⟨v,h3,h4.grow w⟩
 dis:=s.dis
 lk:=s.lk
theorem SI.grown(s:SI X g m r G st H):Grow X.K g.gh g.h0 G H:=⟨s.gok,s.old,s.ge,s.gf⟩
theorem SI.frz(s:SI X g m r G st H)(i:Nat)(hi:m[i]? = some .ow):(∃G',(∀a d,G a=some d->G' a=some d)/\SI X g (m.set i .sh) r G' st H)\/∃a,∀ob,∃G',(∀a d,G a=some d->G' a=some d)/\SI X g (m.set i .sh) r G' st (fz H a ob):=by
 have hlt:i<m.length:=(c_.mp hi).1;by_cases hb:∃d,r[i]? = some (some d)
 .obtain⟨d,hd⟩:=hb;obtain⟨a,h1,h2,h3⟩:=s.ow i d hd hi;refine .inr ⟨a,fun ob=>⟨gset G a d,gU h2.un,(s.gok.fast h2.un ob).gset h2.un (h2.ob.fast ob),fun b o e=>by rw[pH (by rintro rfl;rw[h3]at e;cases e)];exact s.old b o e,fun b e h=>gU h2.un b e (s.ge b e h),fun b h=>?_,by simpa using s.lm,s.lr,?_,?_,?_,?_,fun j o hj hm=>?_⟩⟩
  .rw[gl (by rintro rfl;exact h h3)];exact s.gf b h
  .intro j e hj hm;by_cases hij:i=j
   .subst hij;rw[hd]at hj;cases hj;exact⟨_,h1,.ref fU⟩
   .rw[f_ hij]at hm;obtain⟨v,q1,q2⟩:=s.sh j e hj hm;exact⟨v,q1,q2.mono (gU h2.un)⟩
  .intro j e hj hm;by_cases hij:i=j
   .subst hij;rw[n_ hlt]at hm;cases hm
   .rw[f_ hij]at hm;obtain⟨b,q1,q2,q3⟩:=s.ow j e hj hm;have hba:b≠a:=by
     rintro rfl
     exact s.dis i j b d e hij hd hj hi hm h1 q1
    exact⟨b,q1,⟨by rw[gl hba];exact q2.un,q2.ob.mono (gU h2.un) fun _ z=>by rw[pH hba];exact z⟩,q3⟩
  .intro j e hj hm;by_cases hij:i=j
   .subst hij;rw[n_ hlt]at hm;cases hm
   .rw[f_ hij]at hm;obtain⟨v,q1,q2⟩:=s.bw j e hj hm;refine⟨v,q1,?_⟩;rcases q2 with q2|⟨b,rfl,q2,q3⟩
    .exact .inl (q2.mono (gU h2.un))
    .have hba:b≠a:=by rintro rfl;exact q3 h3
     exact .inr ⟨b,rfl,⟨by rw[gl hba];exact q2.un,q2.ob.mono (gU h2.un) fun _ z=>by rw[pH hba];exact z⟩,q3⟩
  .intro j k b e e' hjk hj hk hm hm' q1 q2;have hij:i≠j:=by
    rintro rfl
    rw[n_ hlt]at hm;cases hm
   have hik:i≠k:=by
    rintro rfl
    rw[n_ hlt]at hm';cases hm'
   rw[f_ hij]at hm;rw[f_ hik]at hm';exact s.dis j k b e e' hjk hj hk hm hm' q1 q2
  .refine s.lk j o hj ?_;by_cases hij:i=j
   .subst hij;rw[n_ hlt]at hm;cases hm
   .rw[f_ hij]at hm;exact hm
 .refine .inl ⟨G,fun _ _ z=>z,s.gok,s.old,s.ge,s.gf,by simpa using s.lm,s.lr,?_,?_,?_,?_,fun j o hj hm=>?_⟩
  .intro j e hj hm;have hij:i≠j:=by rintro rfl;exact hb ⟨e,hj⟩
   rw[f_ hij]at hm;exact s.sh j e hj hm
  .intro j e hj hm;have hij:i≠j:=by rintro rfl;exact hb ⟨e,hj⟩
   rw[f_ hij]at hm;exact s.ow j e hj hm
  .intro j e hj hm;have hij:i≠j:=by rintro rfl;exact hb ⟨e,hj⟩
   rw[f_ hij]at hm;exact s.bw j e hj hm
  .intro j k b e e' hjk hj hk hm hm' q1 q2;have hij:i≠j:=by rintro rfl;exact hb ⟨e,hj⟩
   have hik:i≠k:=by rintro rfl;exact hb ⟨e',hk⟩
   rw[f_ hij]at hm;rw[f_ hik]at hm';exact s.dis j k b e e' hjk hj hk hm hm' q1 q2
  .refine s.lk j o hj ?_;by_cases hij:i=j
   .subst hij;rw[n_ hlt]at hm;cases hm
   .rw[f_ hij]at hm;exact hm
end
theorem PE.imp{X:Cx}{e:Expr}{t t':TE}(h:PE X e t)(i:∀σ H Q,t' σ H Q->t σ H Q):PE X e t':=fun pz s σ H Q I q=>h pz s σ H Q I (i σ H Q q)
theorem PT.imp{X:Cx}{e:Expr}{t t':TT}(h:PT X e t)(i:∀σ H Q,t' σ H Q->t σ H Q):PT X e t':=fun pz s σ H Q I q=>h pz s σ H Q I (i σ H Q q)
theorem PW.imp{X:Cx}{e:Expr}{t t':TT}(h:PW X e t)(i:∀σ H Q,t' σ H Q->t σ H Q):PW X e t':=fun whole pz s σ H Q I q=>h whole pz s σ H Q I (i σ H Q q)
theorem PA.imp{X:Cx}{e:List Expr}{t t':TA}(h:PA X e t)(i:∀σ H Q,t' σ H Q->t σ H Q):PA X e t':=fun pos pz s σ H Q I q=>h pos pz s σ H Q I (i σ H Q q)
theorem PS.imp{X:Cx}{e:Stmt}{t t':TS}(h:PS X e t)(i:∀D σ H,t' D σ H->t D σ H):PS X e t':=fun pz s σ H D I q=>h pz s σ H D I (i D σ H q)
theorem eY.imp{X:Cx}{e:List Stmt}{t t':TS}(h:eY X e t)(i:∀D σ H,t' D σ H->t D σ H):eY X e t':=fun pz s σ H D I q=>h pz s σ H D I (i D σ H q)
def GG(X:Cx)(σ:L2.St)(G:GH)(H':Hp)(e:a_)(x:D)(s':d_):Prop:=∃pz s H1 a C od nm ds,e=.ref a/\x=xD nm ds/\XN X.K nm C/\XF G od ds/\Inv X pz σ H1 s/\Fly X.prog X.w X.stack H1 s H' a (.ref C) od s'
def XW(X:Cx)(σ:L2.St)(G:GH)(H:Hp)(x:D):Prop:=∀pz e s' G' H',Grow X.K G H G' H'->Inv X pz σ H' s'->GG X σ G' H' e x s'->X.xe e s'
theorem XW.grow{X:Cx}{σ:L2.St}{G G1:GH}{H H1:Hp}{x:D}(h:XW X σ G H x)(w:Grow X.K G H G1 H1):XW X σ G1 H1 x:=fun pz e s' G' H' w' I q=>h pz e s' G' H' (w.trans w') I q
abbrev FE:=aS->Res D
def tE(X:Cx)(g:GE)(m:List Md)(f:FE):TE:=fun σ H Q=>∃r G,SI X g m r G σ H/\fin (f r) (fun d=>∀v G' H',Grow X.K G H G' H'->RG X.K G' v d->Q v H') (XW X σ G H)
def tB(X:Cx)(g:GE)(m:List Md)(f:FE):TE:=fun σ H Q=>∃r G,SI X g m r G σ H/\fin (f r) (fun d=>∀v G' H',Grow X.K G H G' H'->RB X.K G' H' v d->Q v H') (XW X σ G H)
def tO(X:Cx)(g:GE)(m:List Md)(f:FE):TE:=fun σ H Q=>∃r G,SI X g m r G σ H/\fin (f r) (fun d=>∀a G' H',Grow X.K G H G' H'->H a=none->Own X.K G' H' a d->Q (.ref a) H') (XW X σ G H)
def tQ(X:Cx)(g:GE)(m:List Md)(f:aS->Res Bool):TT:=fun σ H Q=>∃r G,SI X g m r G σ H/\fin (f r) (fun b=>∀G' H',Grow X.K G H G' H'->Q b H') (XW X σ G H)
def tL(X:Cx)(g:GE)(m:List Md)(f:aS->Res (List D)):TA:=fun σ H Q=>∃r G,SI X g m r G σ H/\fin (f r) (fun ds=>∀vs G' H',Grow X.K G H G' H'->dy X.K G' vs ds->Q vs H') (XW X σ G H)
def Bd(X:Cx)(g:GE)(m:List Md)(f:aS->Res (List D)):TA:=fun σ H Q=>∃r G,SI X g m r G σ H/\fin (f r) (fun ds=>∀vs G' H',Grow X.K G H G' H'->Paired (RB X.K G' H') vs ds->Q vs H') (XW X σ G H)
def SE(X:Cx)(g:GE)(m:List Md)(e:Expr)(f:FE):Prop:=PE X e (tE X g m f)
def SB(X:Cx)(g:GE)(m:List Md)(e:Expr)(f:FE):Prop:=PE X e (tB X g m f)
def SO(X:Cx)(g:GE)(m:List Md)(e:Expr)(f:FE):Prop:=PE X e (tO X g m f)
def SQ(X:Cx)(g:GE)(m:List Md)(e:Expr)(f:aS->Res Bool):Prop:=PT X e (tQ X g m f)
def SW(X:Cx)(g:GE)(m:List Md)(e:Expr)(f:aS->Res Bool):Prop:=PW X e (tQ X g m f)
def SA(X:Cx)(g:GE)(m:List Md)(es:List Expr)(f:aS->Res (List D)):Prop:=PA X es (tL X g m f)
def i0(X:Cx)(g:GE)(m:List Md)(es:List Expr)(f:aS->Res (List D)):Prop:=PA X es (Bd X g m f)
section
variable{X:Cx}{g:GE}{m:List Md}{e a b c:Expr}{f fa fb fc:FE}{pos:Pos}
theorem SE.toB(h:SE X g m e f):SB X g m e f:=PE.imp h fun σ H Q ⟨r,G,si,q⟩=>⟨r,G,si,cY q fun d k v G' H' w z=>k v G' H' w z.rb⟩
theorem Inv.fast{pz:List (Addr×Obj)}{σ:L2.St}{H:Hp}{s:d_}(I:Inv X pz σ H s)(a:Addr):∃ob,Inv X pz σ (fz H a ob) s:=by cases e:H a with
|none=>exact⟨{ cls:=.none,data:=.fields #[] },by unfold fz;rw[e];exact I⟩
|some u=>cases u with
 |dK ps=>
   obtain⟨z1,z2,vs,z3,o,es,ep,z4,z5⟩:=(show dz X.prog X.w H s.heap a (.dK ps)from I.hok a _ e)
   have ef:fz H a o=upd H a (.frz o (.dK ps)):=by unfold fz;rw[e]
   refine⟨o,?_⟩;rw[ef];exact I.write (t':=s.toks) (h':=s.heap) (x:=a) (e:=a) (by rw[e];exact trivial) (.inl rfl) (fun b u _ q=>q) ⟨o,z4⟩ (show dz X.prog X.w _ s.heap a (.frz o (.dK ps))from⟨z4,z1,z2,vs,z3,o,es,ep,z4,z5⟩)
 |_=>exact⟨{ cls:=.none,data:=.fields #[] },by unfold fz;rw[e];exact I⟩
theorem SO.toE(h:SO X g m e f):SE X g m e f:=by intro pz s σ H Q I ⟨r,G,si,q⟩;refine bU (h pz s σ H (fun v H'=>∃a,v=.ref a/\∀ob,Q v (fz H' a ob)) I ⟨r,G,si,cY q fun d k a G' H' w hn o=>⟨a,rfl,fun ob=>k _ _ _ (w.frz hn o ob) (.ref fU)⟩⟩) fun u s' ⟨v,H',I',rv,a,_,z⟩=>?_;obtain⟨ob,I2⟩:=Inv.fast I' a;exact⟨v,_,I2,rv,z ob⟩
theorem SO.toB(h:SO X g m e f):SB X g m e f:=h.toE.toB
theorem sK{v:V}{d:D}(h:PE X e (tC v))(s:Scl v d):SE X g m e fun _=>.ok d:=PE.imp h fun σ H Q ⟨r,G,si,q⟩=>q v G H (Grow.refl si.gok) (.scl s)
theorem Cq{i:Int}{j}:SE X g m (.Constant (.int i) j pos) fun _=>.ok (.int i):=sK Jo (.int i)
theorem d6{i:Bool}{j}:SE X g m (.Constant (.bool i) j pos) fun _=>.ok (.bl i):=sK GR (.bl i)
theorem jF{j}:SE X g m (.Constant .none j pos) fun _=>.ok .non:=sK Jq .non
theorem lQ{i:Str}{j}:SE X g m (.Constant (.str i) j pos) fun _=>.ok (.str i):=sK CN (.str i)
def gS(r:aS)(i:Nat):Res D:=match r[i]? with
|some (some d)=>.ok d
|_=>.stuck
theorem yJ{r:aS}{i:Nat}{q:D->Prop}{x:D->Prop}(h:fin (gS r i) q x):∃d,r[i]? = some (some d)/\q d:=by
 unfold gS at h;split at h
 .rename_i d e;exact⟨d,e,h⟩
 .exact h.elim
theorem Hb(i:Nat){x:Str}(hm:m[i]? = some .sh)(hN:X.N[i]? = some x)(hv:jC X.env.scope x)(hd:(x==("__debug__" : Str))=false:=by decide)(hcd:(x==("__classdict__" : Str))=false:=by decide):SE X g m (.Name x pos) fun r=>gS r i:=by refine PE.imp (kS hN hv hd hcd) fun σ H Q ⟨r,G,si,q⟩=>?_;obtain⟨d,e,k⟩:=yJ q;obtain⟨v,e1,e2⟩:=si.sh i d e hm;exact⟨v,e1,k v G H (Grow.refl si.gok) e2⟩
theorem JX(i:Nat){x:Str}(hm:i<m.length)(hN:X.N[i]? = some x)(hv:jC X.env.scope x)(hd:(x==("__debug__" : Str))=false:=by decide)(hcd:(x==("__classdict__" : Str))=false:=by decide):SB X g m (.Name x pos) fun r=>gS r i:=by refine PE.imp (kS hN hv hd hcd) fun σ H Q ⟨r,G,si,q⟩=>?_;obtain⟨d,e,k⟩:=yJ q;have hm':m[i]? = some m[i]:=g_ hm;cases h:m[i]with
|sh=>obtain⟨v,e1,e2⟩:=si.sh i d e (hm'.trans (by rw[h]));exact⟨v,e1,k v G H (Grow.refl si.gok) e2.rb⟩
|ow=>obtain⟨v,e1,e2,_⟩:=si.ow i d e (hm'.trans (by rw[h]));exact⟨_,e1,k _ G H (Grow.refl si.gok) (.inr ⟨v,rfl,e2⟩)⟩
|bw=>obtain⟨v,e1,e2⟩:=si.bw i d e (hm'.trans (by rw[h]));exact⟨_,e1,k _ G H (Grow.refl si.gok) e2.rb⟩
theorem nE{β:Type}{k:D->D->Res β}{q:β->Prop}{R:V->V->Hp->Prop}{r:aS}{G:GH}{σ:L2.St}{H:Hp}(si:SI X g m r G σ H)(h:fin ((fa r).bind fun d1=>(fb r).bind fun d2=>k d1 d2) q (XW X σ G H))(hk:∀d1 d2 v1 v2 G2 H2,Grow X.K G H G2 H2->RB X.K G2 H2 v1 d1->RB X.K G2 H2 v2 d2->fin (k d1 d2) q (XW X σ G H)->R v1 v2 H2):tB X g m fa σ H fun v1 H1=>tB X g m fb σ H1 fun v2 H2=>R v1 v2 H2:=by refine⟨r,G,si,cY (c6 h) fun d1 h1 v1 G1 H1 w1 r1=>⟨r,G1,si.grow w1,?_⟩⟩;cases e:fb r with
|ok d2=>rw[e]at h1;exact fun v2 G2 H2 w2 r2=>hk d1 d2 v1 v2 G2 H2 (w1.trans w2) (r1.mono w2) r2 h1
|exc x=>rw[e]at h1;exact(show XW X σ G H x from h1).grow w1
|stuck=>rw[e]at h1;exact h1
def dM{α:Type}:Option α->Res α
|some a=>.ok a
|none=>.stuck
@[simp] theorem opt_some{α:Type}(a:α):dM (some a)=.ok a:=rfl
@[simp] theorem opt_none{α:Type}:dM (none:Option α)=.stuck:=rfl
theorem dZ{α:Type}{o:Option α}{q:α->Prop}{x:D->Prop}(h:fin (dM o) q x):∃a,o=some a/\q a:=by cases o with
|none=>exact h.elim
|some a=>exact⟨a,rfl,h⟩
def fQ(K:W.Frag)(r:R2)(k:D->D->Option D):Prop:=∀(G:GH)(H:Hp)(v1 v2:V)(d1 d2 d:D)(Q:VK),bZ K G H->RB K G H v1 d1->RB K G H v2 d2->k d1 d2=some d ->(∀v G' H',Grow K G H G' H'->RG K G' v d->Q v H')->r v1 v2 H Q
def f2(fa fb:FE)(k:D->D->Option D):FE:=fun r=>(fa r).bind fun d1=>(fb r).bind fun d2=>dM (k d1 d2)
theorem wJ{R:R2}{k:D->D->Option D}(ho:fQ X.K R k)(h:PE X e (qR R (tB X g m fa) (tB X g m fb))):SE X g m e (f2 fa fb k):=by refine PE.imp h fun σ H Q ⟨r,G,si,q⟩=>?_;refine nE si q fun d1 d2 v1 v2 G2 H2 w r1 r2 q2=>?_;obtain⟨d,e,q2⟩:=dZ q2;exact ho G2 H2 v1 v2 d1 d2 d Q w.ok r1 r2 e fun v G' H' w' z=>q2 v G' H' (w.trans w') z
theorem mE{op:Operator}{R:R2}{k:D->D->Option D}(hr:cV X (Ss op) R)(ho:fQ X.K R k)(ha:SB X g m a fa)(hb:SB X g m b fb):SE X g m (.BinOp a op b pos) (f2 fa fb k):=wJ ho (Cd hr ha hb)
theorem GZ{op:WM}{R:R2}{k:D->D->Option D}(hr:cV X (QG op) R)(ho:fQ X.K R k)(ha:SB X g m a fa)(hb:SB X g m b fb)(hm:Si op b=false):SE X g m (.Compare a [op] [b] pos) (f2 fa fb k):=wJ ho (Kr hr ha hb hm)
def jU:D->Option Bool
|.bl b=>some b
|_=>none
def bW(f:FE):aS->Res Bool:=fun r=>(f r).bind fun d=>dM (jU d)
theorem lS{op:WM}{R:R2}{k:D->D->Option D}(hr:cV X (QG op) R)(ho:fQ X.K R k)(ha:SB X g m a fa)(hb:SB X g m b fb)(hm:Si op b=false):SQ X g m (.Compare a [op] [b] pos) (bW (f2 fa fb k)):=by
 refine PT.imp (KH hr ha hb hm) fun σ H Q ⟨r,G,si,q⟩=>?_;have e:bW (f2 fa fb k) r=(fa r).bind fun d1=>(fb r).bind fun d2=>(dM (k d1 d2)).bind fun d=>dM (jU d):=by unfold bW f2;cases fa r with
 |ok d1=>cases fb r <;> rfl
 |exc _=>rfl
 |stuck=>rfl
 rw[e]at q;refine nE (R:=fun x y H2=>R x y H2 fun x H'=>∃k,x=V.bl k/\Q k H') si q fun d1 d2 v1 v2 G2 H2 w r1 r2 q3=>?_;obtain⟨d,e,q3⟩:=dZ (c6 q3);obtain⟨b,eb,q3⟩:=dZ q3;cases d with
|bl b'=>cases eb;exact ho G2 H2 v1 v2 d1 d2 _ _ w.ok r1 r2 e fun v G' H' w' z=>⟨_,z.bl w'.ok,q3 G' H' (w.trans w')⟩
|_=>cases eb
end
instance decMul(i j:Int):Decidable (iS i j):=by unfold iS;infer_instance
instance decDiv(i j:Int):Decidable (iT i j):=by unfold iT;infer_instance
instance decPow(i j:Int):Decidable (jn i j):=by unfold jn;infer_instance
def mB(k:Int->Int->D):D->D->Option D
|.int a,.int b=>some (k a b)
|_,_=>none
def lM(C:Int->Int->Prop)[∀a b,Decidable (C a b)](k:Int->Int->D):D->D->Option D
|.int a,.int b=>if C a b then some (k a b)else none
|_,_=>none
@[simp] theorem ints2_int(k:Int->Int->D)(a b:Int):mB k (.int a) (.int b)=some (k a b):=rfl
@[simp] theorem intsC_int(C:Int->Int->Prop)[∀a b,Decidable (C a b)](k:Int->Int->D)(a b:Int):lM C k (.int a) (.int b)=if C a b then some (k a b)else none:=rfl
section
variable{K:W.Frag}
theorem pY{gv:Int->Int->V}{gd:Int->Int->D}(hs:∀i j,Scl (gv i j) (gd i j)):fQ K (kt gv) (mB gd):=by
 intro G H v1 v2 d1 d2 d Q g r1 r2 e q;unfold mB at e;split at e
 .cases e;exact⟨_,_,r1.int g,r2.int g,q _ G H (Grow.refl g) (.scl (hs _ _))⟩
 .cases e
theorem sT{C:Int->Int->Prop}[∀a b,Decidable (C a b)]{gv:Int->Int->V}{gd:Int->Int->D}(hs:∀i j,Scl (gv i j) (gd i j)):fQ K (rI C gv) (lM C gd):=by
 intro G H v1 v2 d1 d2 d Q g r1 r2 e q;unfold lM at e;split at e
 .split at e
  .rename_i hc;cases e;exact⟨_,_,r1.int g,r2.int g,hc,q _ G H (Grow.refl g) (.scl (hs _ _))⟩
  .cases e
 .cases e
end
abbrev lj:D->D->Option D:=mB fun a b=>.int (a-b)
abbrev fm:D->D->Option D:=lM iS fun a b=>.int (a*b)
abbrev iV:D->D->Option D:=lM iT fun a b=>.int (a/b)
abbrev cP:D->D->Option D:=lM (fun _ b=>0<b) fun a b=>.int (a%b)
abbrev je:D->D->Option D:=lM jn fun a b=>.int (a^b.toNat)
abbrev ku:D->D->Option D:=mB fun a b=>.bl (decide (a<b))
abbrev rA:D->D->Option D:=mB fun a b=>.bl (decide (a<=b))
abbrev kx:D->D->Option D:=mB fun a b=>.bl (decide (b<a))
section
variable{X:Cx}{g:GE}{m:List Md}{e a b c:Expr}{f fa fb fc:FE}{pos:Pos}
theorem Cu(ha:SB X g m a fa)(hb:SB X g m b fb):SE X g m (.BinOp a .Sub b pos) (f2 fa fb lj):=mE Jk (pY fun _ _=>.int _) ha hb
theorem mH(ha:SB X g m a fa)(hb:SB X g m b fb):SE X g m (.BinOp a .Mult b pos) (f2 fa fb fm):=mE Jh (sT fun _ _=>.int _) ha hb
theorem mL(ha:SB X g m a fa)(hb:SB X g m b fb):SE X g m (.BinOp a .FloorDiv b pos) (f2 fa fb iV):=mE Km (sT fun _ _=>.int _) ha hb
theorem gT(ha:SB X g m a fa)(hb:SB X g m b fb):SE X g m (.BinOp a .Mod b pos) (f2 fa fb cP):=mE Jg (sT fun _ _=>.int _) ha hb
theorem Ct(ha:SB X g m a fa)(hb:SB X g m b fb):SE X g m (.BinOp a .Pow b pos) (f2 fa fb je):=mE Ji (sT fun _ _=>.int _) ha hb
theorem q9(ha:SB X g m a fa)(hb:SB X g m b fb):SQ X g m (.Compare a [.Lt] [b] pos) (bW (f2 fa fb ku)):=lS vW (pY fun _ _=>.bl _) ha hb (mP _)
theorem lz(ha:SB X g m a fa)(hb:SB X g m b fb):SQ X g m (.Compare a [.Gt] [b] pos) (bW (f2 fa fb kx)):=lS GP (pY fun _ _=>.bl _) ha hb (mP _)
def f1(fa:FE)(k:D->Option D):FE:=fun r=>(fa r).bind fun d=>dM (k d)
def jP:D->Option D
|.int a=>some (.int (-a))
|_=>none
@[simp] theorem negI_int(a:Int):jP (.int a)=some (.int (-a)):=rfl
theorem Cr(ha:SB X g m a fa):SE X g m (.UnaryOp .USub a pos) (f1 fa jP):=by
 refine PE.imp (GU Ke ha) fun σ H Q ⟨r,G,si,q⟩=>⟨r,G,si,cY (c6 q) fun d q1 v G1 H1 w1 r1=>?_⟩
 obtain⟨d',e,q2⟩:=dZ q1;cases d with
|int i=>cases e;exact⟨i,r1.int w1.ok,q2 _ G1 H1 w1 (.scl (.int _))⟩
|_=>cases e
def i6:D->Option Bool
|.non=>some false
|.bl b=>some b
|.int i=>some (i != 0)
|.str y=>if y.length<=sizeLine then some ((y.length:Int) != 0)else none
|.lst ds=>some (! ds.isEmpty)
|.tup ds=>some (! ds.isEmpty)
|.dic kvs=>some (! kvs.isEmpty)
|.obj _ _=>none
theorem zI{α β:Type}{F:α->β->Prop}{l:List α}{r:List β}(h:Paired F l r):l.isEmpty=r.isEmpty:=by cases h <;> rfl
theorem LH{K:W.Frag}{G:GH}{H:Hp}{v:V}{d:D}{b:Bool}(gk:bZ K G H)(h:RB K G H v d)(e:i6 d=some b):nV K v H b:=by cases d with
|non=>cases e;rw[h.non gk];rfl
|bl b'=>cases e;rw[h.bl gk];rfl
|int i=>cases e;rw[h.int gk];rfl
|str y=>
  rw[h.str gk];have e':(if y.length<=sizeLine then some ((y.length:Int) != 0)else none)=some b:=e;by_cases hy:y.length<=sizeLine
  .rw[if_pos hy]at e';cases e';exact⟨hy,rfl⟩
  .rw[if_neg hy]at e';cases e'
|lst ds=>cases e;obtain⟨a,xs,rfl,s,r⟩:=h.lst gk;exact .inl ⟨xs,s,by rw[zI r]⟩
|tup ds=>cases e;obtain⟨a,xs,rfl,s,r⟩:=h.tup gk;exact .inr (.inl ⟨xs,s,by rw[zI r]⟩)
|dic kvs=>cases e;obtain⟨a,xs,rfl,s,r⟩:=h.dic gk;exact .inr (.inr ⟨xs,s,by rw[zI r]⟩)
|obj _ _=>cases e
def eU(f:FE):aS->Res Bool:=fun r=>(f r).bind fun d=>dM (i6 d)
theorem lT(ha:SB X g m a fa)(he:∀whole,isTrue a X.env whole=(do let v <-whole;W4 a.pos;Uo [v] (truthy v)):=by intro _;rfl):SQ X g m a (eU fa):=by
 refine PT.imp (MA ha he) fun σ H Q ⟨r,G,si,q⟩=>⟨r,G,si,cY (c6 q) fun d q1 v G1 H1 w1 r1=>?_⟩
 obtain⟨b,e,q2⟩:=dZ q1;exact⟨b,LH w1.ok r1 e,q2 G1 H1 w1⟩
abbrev FQ:=aS->Res Bool
def fL(p q:FQ):FQ:=fun r=>(p r).bind fun c=>if c=true then q r else .ok false
def iQ(p q:FQ):FQ:=fun r=>(p r).bind fun c=>if c=true then .ok true else q r
def fB(p:FQ):FQ:=fun r=>(p r).bind fun c=>.ok (! c)
variable{p q:FQ}{rest:List Expr}
theorem Ht{α:Type}{r:Res α}{q:α->Prop}{x x':D->Prop}(h:fin r q x)(hx:∀e,x e->x' e):fin r q x':=by cases r with
|ok a=>exact h
|exc e=>exact hx e h
|stuck=>exact h
theorem iE{α:Type}{r:Res α}{σ:L2.St}{G G1:GH}{H H1:Hp}{P P':α->Prop}(h:fin r P (XW X σ G H))(w:Grow X.K G H G1 H1)(hp:∀a,P a->P' a):fin r P' (XW X σ G1 H1):=Ht (cY h hp) fun _ x=>x.grow w
theorem sB(ha:SQ X g m a p):SW X g m (.BoolOp .And [a] pos) p:=KJ ha
theorem pL(ha:SQ X g m a p):SW X g m (.BoolOp .Or [a] pos) p:=IT ha
theorem rY(ha:SQ X g m a p)(hb:SW X g m (.BoolOp .And (b::rest) pos) q):SW X g m (.BoolOp .And (a::b::rest) pos) (fL p q):=by
 refine PW.imp (IS ha hb) fun σ H Q ⟨r,G,si,k⟩=>⟨r,G,si,cY (c6 k) fun c k1 G1 H1 w1=>?_⟩
 cases c with
|true=>rw[if_pos rfl]at k1 ⊢;exact⟨r,G1,si.grow w1,iE k1 w1 fun b z G' H' w'=>z G' H' (w1.trans w')⟩
|false=>rw[if_neg i_]at k1 ⊢;exact k1 G1 H1 w1
theorem ja(ha:SQ X g m a p)(hb:SW X g m (.BoolOp .Or (b::rest) pos) q):SW X g m (.BoolOp .Or (a::b::rest) pos) (iQ p q):=by
 refine PW.imp (GW ha hb) fun σ H Q ⟨r,G,si,k⟩=>⟨r,G,si,cY (c6 k) fun c k1 G1 H1 w1=>?_⟩
 cases c with
|true=>rw[if_pos rfl]at k1 ⊢;exact k1 G1 H1 w1
|false=>rw[if_neg i_]at k1 ⊢;exact⟨r,G1,si.grow w1,iE k1 w1 fun b z G' H' w'=>z G' H' (w1.trans w')⟩
theorem SW.toQ(h:SW X g m e p):SQ X g m e p:=PW.pt h
theorem mK(ha:SQ X g m a p):SQ X g m (.UnaryOp .Not a pos) (fB p):=PT.imp (IR ha) fun σ H Q ⟨r,G,si,k⟩=>⟨r,G,si,cY (c6 k) fun c k1 G1 H1 w1=>k1 G1 H1 w1⟩
def gq(fa fb:FE):FE:=fun r=>(fa r).bind fun d=>(dM (jU d)).bind fun c=>if c=true then fb r else .ok (.bl false)
def Qn(fa fb:FE):FE:=fun r=>(fa r).bind fun d=>(dM (jU d)).bind fun c=>if c=true then .ok (.bl true)else fb r
def lh(fa:FE):FE:=fun r=>(fa r).bind fun d=>(dM (jU d)).bind fun c=>.ok (.bl (! c))
theorem sf{op}(h:SE X g m a fa):SE X g m (.BoolOp op [a] pos) fa:=Js h
theorem sd(ha:SE X g m a fa)(hb:SE X g m (.BoolOp .And (b::rest) pos) fb):SE X g m (.BoolOp .And (a::b::rest) pos) (gq fa fb):=by
 refine PE.imp (Jl ha hb) fun σ H Q ⟨r,G,si,k⟩=>⟨r,G,si,cY (c6 k) fun d k1 v G1 H1 w1 r1=>?_⟩
 obtain⟨c,e,k2⟩:=dZ (c6 k1);cases d with
|bl c'=>cases e;refine⟨_,r1.bl w1.ok,?_⟩;cases c with
 |true=>rw[if_pos rfl]at k2 ⊢;exact⟨r,G1,si.grow w1,iE k2 w1 fun b z v G' H' w'=>z v G' H' (w1.trans w')⟩
 |false=>rw[if_neg i_]at k2 ⊢;exact k2 _ G1 H1 w1 (.scl (.bl _))
|_=>cases e
theorem Cs(ha:SE X g m a fa):SE X g m (.UnaryOp .Not a pos) (lh fa):=by
 refine PE.imp (Jr ha) fun σ H Q ⟨r,G,si,k⟩=>⟨r,G,si,cY (c6 k) fun d k1 v G1 H1 w1 r1=>?_⟩
 obtain⟨c,e,k2⟩:=dZ (c6 k1);cases d with
|bl c'=>cases e;exact⟨_,r1.bl w1.ok,k2 _ G1 H1 w1 (.scl (.bl _))⟩
|_=>cases e
def lE(p:FQ)(fa fb:FE):FE:=fun r=>(p r).bind fun c=>if c=true then fa r else fb r
theorem wI(hc:SQ X g m c p)(ha:SE X g m a fa)(hb:SE X g m b fb):SE X g m (.IfExp c a b pos) (lE p fa fb):=by
 refine PE.imp (Nb hc ha hb) fun σ H Q ⟨r,G,si,k⟩=>⟨r,G,si,cY (c6 k) fun c k1 G1 H1 w1=>?_⟩
 cases c with
|true=>rw[if_pos rfl]at k1 ⊢;exact⟨r,G1,si.grow w1,iE k1 w1 fun b z v G' H' w'=>z v G' H' (w1.trans w')⟩
|false=>rw[if_neg i_]at k1 ⊢;exact⟨r,G1,si.grow w1,iE k1 w1 fun b z v G' H' w'=>z v G' H' (w1.trans w')⟩
variable{es:List Expr}{fl fr:aS->Res (List D)}
def aN:aS->Res (List D):=fun _=>.ok []
def aP(fa:FE)(fl:aS->Res (List D)):aS->Res (List D):=fun r=>(fa r).bind fun d=>(fl r).bind fun ds=>.ok (d::ds)
theorem di:SA X g m [] aN:=PA.imp kh fun σ H Q ⟨r,G,si,k⟩=>k [] G H (Grow.refl si.gok) .nil
theorem cz(ha:SE X g m e fa)(hr:SA X g m es fl)(hs:h_ (e::es) X.env=(false,eval e X.env)::h_ es X.env:=by rfl):SA X g m (e::es) (aP fa fl):=by
 refine PA.imp (iD ha hr hs) fun σ H Q ⟨r,G,si,k⟩=>⟨r,G,si,cY (c6 k) fun d k1 v G1 H1 w1 r1=>⟨r,G1,si.grow w1,?_⟩⟩
 exact iE (c6 k1) w1 fun ds z vs G2 H2 w2 r2=>z (v::vs) G2 H2 (w1.trans w2) (.cons (r1.mono w2.ge) r2)
theorem dA:i0 X g m [] aN:=PA.imp kh fun σ H Q ⟨r,G,si,k⟩=>k [] G H (Grow.refl si.gok) .nil
theorem dh(ha:SB X g m e fa)(hr:i0 X g m es fl)(hs:h_ (e::es) X.env=(false,eval e X.env)::h_ es X.env:=by rfl):i0 X g m (e::es) (aP fa fl):=by
 refine PA.imp (iD ha hr hs) fun σ H Q ⟨r,G,si,k⟩=>⟨r,G,si,cY (c6 k) fun d k1 v G1 H1 w1 r1=>⟨r,G1,si.grow w1,?_⟩⟩
 exact iE (c6 k1) w1 fun ds z vs G2 H2 w2 r2=>z (v::vs) G2 H2 (w1.trans w2) (.cons (r1.mono w2) r2)
def sz(ds:List D):Option (List D):=if ds.length<=sizeLine then some ds else none
theorem wK{ds ds':List D}(h:sz ds=some ds'):ds'=ds/\ds.length<=sizeLine:=by
 unfold sz at h;split at h
 .rename_i hl;cases h;exact⟨rfl,hl⟩
 .cases h
theorem He{ds:List D}(h:ds.length<=sizeLine):sz ds=some ds:=if_pos h
def iq(fl:aS->Res (List D)):FE:=fun r=>(fl r).bind fun ds=>(dM (sz ds)).bind fun ds=>.ok (.tup ds)
def fq(fl:aS->Res (List D)):FE:=fun r=>(fl r).bind fun ds=>(dM (sz ds)).bind fun ds=>.ok (.lst ds)
theorem j8{x1}(h:SA X g m es fl):SE X g m (.Tuple es x1 pos) (iq fl):=by
 refine PE.imp (Jt h) fun σ H Q ⟨r,G,si,k⟩=>⟨r,G,si,cY (c6 k) fun ds k1 vs G1 H1 w1 r1=>?_⟩
 obtain⟨ds',e,k2⟩:=dZ (c6 k1);obtain⟨rfl,hl⟩:=wK e;have hlen:=Paired.length r1;refine⟨by omega,fun p hp=>?_⟩;exact k2 _ _ _ (w1.trans (Grow.newF (d:=.tup ds') w1.ok hp (.tup (.inl du) r1))) (.ref fU)
theorem fR(h:SA X g m es fl):SO X g m (.List es pos) (fq fl):=by
 refine PE.imp (Jp h) fun σ H Q ⟨r,G,si,k⟩=>⟨r,G,si,cY (c6 k) fun ds k1 vs G1 H1 w1 r1=>?_⟩
 obtain⟨ds',e,k2⟩:=dZ (c6 k1);obtain⟨rfl,hl⟩:=wK e;have hlen:=Paired.length r1;refine⟨by omega,fun p hp=>?_⟩;have hn:H p=none:=by cases q:H p with
 |none=>rfl
 |some o=>rw[w1.he _ _ q]at hp;cases hp
 exact k2 p G1 _ (w1.trans (Grow.new w1.ok hp _)) hn ⟨w1.ok.isN hp,.lst du r1⟩
end
def n9(K:W.Frag)(r:List V->Hp->VK->Prop)(k:List D->Option D):Prop:=∀(G:GH)(H:Hp)(vs:List V)(ds:List D)(d:D)(Q:VK),bZ K G H->Paired (RB K G H) vs ds->k ds=some d ->(∀v G' H',Grow K G H G' H'->RG K G' v d->Q v H')->r vs H Q
def BZ(K:W.Frag)(r:List V->Hp->VK->Prop)(k:List D->Option D):Prop:=∀(G:GH)(H:Hp)(vs:List V)(ds:List D)(d:D)(Q:VK),bZ K G H->Paired (RB K G H) vs ds->k ds=some d ->(∀a G' H',Grow K G H G' H'->H a=none->Own K G' H' a d->Q (.ref a) H')->r vs H Q
def fC(fl:aS->Res (List D))(k:List D->Option D):FE:=fun r=>(fl r).bind fun ds=>dM (k ds)
theorem Grow.back{K:W.Frag}{G G1:GH}{H H1:Hp}(w:Grow K G H G1 H1){a:Addr}(hn:H1 a=none):H a=none:=by cases q:H a with
|none=>rfl
|some o=>rw[w.he _ _ q]at hn;cases hn
section
variable{X:Cx}{g:GE}{m:List Md}{e a b c:Expr}{f fa fb fc:FE}{pos p p2:Pos}{es:List Expr}{fl:aS->Res (List D)}{x:Str}{id T:String}{R:List V->Hp->VK->Prop}{k:List D->Option D}
theorem jK(hk:n9 X.K R k)(h:PE X e (vM R (Bd X g m fl))):SE X g m e (fC fl k):=by
 refine PE.imp h fun σ H Q ⟨r,G,si,q⟩=>⟨r,G,si,cY (c6 q) fun ds q1 vs G1 H1 w1 r1=>?_⟩
 obtain⟨d,e,q2⟩:=dZ q1;exact hk G1 H1 vs ds d Q w1.ok r1 e fun v G' H' w' z=>q2 v G' H' (w1.trans w') z
theorem B7(hk:BZ X.K R k)(h:PE X e (vM R (Bd X g m fl))):SO X g m e (fC fl k):=by
 refine PE.imp h fun σ H Q ⟨r,G,si,q⟩=>⟨r,G,si,cY (c6 q) fun ds q1 vs G1 H1 w1 r1=>?_⟩
 obtain⟨d,e,q2⟩:=dZ q1;exact hk G1 H1 vs ds d Q w1.ok r1 e fun v G' H' w' hn z=>q2 v G' H' (w1.trans w') (w1.back hn) z
def lenD:List D->Option D
|[.str y]=>if y.length<=sizeLine then some (.int y.length)else none
|[.lst ds]=>some (.int ds.length)
|[.tup ds]=>some (.int ds.length)
|[.dic kvs]=>some (.int kvs.length)
|_=>none
theorem HZ{K:W.Frag}:n9 K (fun xs H Q=>(∃x n,xs=[x]/\rF K x H n/\Q (.int n) H)\/∃a kvs,xs=[V.ref a]/\Rd H a (.dK kvs)/\Q (.int kvs.length) H) lenD:=by
 intro G H vs ds d Q gk rs e q;unfold lenD at e;split at e
 .split at e
  .cases e;cases rs with
  |cons r t=>cases t;exact .inl ⟨_,_,rfl,by rw[r.str gk];exact⟨by assumption,rfl⟩,q _ G H (Grow.refl gk) (.scl (.int _))⟩
  .cases e
 .cases e;cases rs with
 |cons r t=>cases t;obtain⟨a,xs,rfl,s,r⟩:=r.lst gk;have:=Paired.length r;exact .inl ⟨_,_,rfl,.inl ⟨xs,s,rfl⟩,q _ G H (Grow.refl gk) (.scl (by rw[this];exact .int _))⟩
 .cases e;cases rs with
 |cons r t=>cases t;obtain⟨a,xs,rfl,s,r⟩:=r.tup gk;have:=Paired.length r;exact .inl ⟨_,_,rfl,.inr ⟨xs,s,rfl⟩,q _ G H (Grow.refl gk) (.scl (by rw[this];exact .int _))⟩
 .cases e;cases rs with
 |cons r t=>cases t;obtain⟨a,xs,rfl,s,r⟩:=r.dic gk;have:=Paired.length r;exact .inr ⟨_,_,rfl,s,q _ G H (Grow.refl gk) (.scl (by rw[this];exact .int _))⟩
 .cases e
theorem hJ(hg:Gl X "len")(hm:X.mg "len" = none)(ha:i0 X g m (e::es) fl)(he:h_ (e::es) X.env=(false,eval e X.env)::h_ es X.env:=by rfl)(hpl:(backTo pos (h_ es X.env)).any (·.1)=false:=by rfl):SE X g m (.Call (.Name "len" p) (e::es) [] pos) (fC fl lenD):=jK HZ (m9 (gF.or Mt NH) hg hm PySem.boot_len ha (by decide) (by decide) he hpl)
def kN:List D->Option D
|[.lst ds]=>some (.lst ds)
|[.tup ds]=>some (.lst ds)
|_=>none
theorem KR{K:W.Frag}:BZ K (fun xs H Q=>∃p ys,xs=[.ref p]/\(c7 K H p ys\/dQ K H p ys)/\∀l,H l=none->Q (.ref l) (upd H l (.lst ys))) kN:=by
 intro G H vs ds d Q gk rs e q;have fin:∀{ys:List V}{zs:List D},dy K G ys zs->(∀(a:Addr)(G':GH)(H':Hp),Grow K G H G' H'->H a=none->Own K G' H' a (.lst zs)->Q (.ref a) H')->∀l,H l=none->Q (.ref l) (upd H l (.lst ys)):=fun r q l hl=>q l G _ (Grow.new gk hl _) hl ⟨gk.isN hl,.lst du r⟩;unfold kN at e;split at e
 .cases e;cases rs with
 |cons r t=>cases t;obtain⟨a,xs,rfl,s,r⟩:=r.lst gk;exact⟨a,xs,rfl,.inl s,fin r q⟩
 .cases e;cases rs with
 |cons r t=>cases t;obtain⟨a,xs,rfl,s,r⟩:=r.tup gk;exact⟨a,xs,rfl,.inr s,fin r q⟩
 .cases e
theorem sx(hg:Gl X "list")(hm:X.mg "list" = none)(ha:i0 X g m (e::es) fl)(he:h_ (e::es) X.env=(false,eval e X.env)::h_ es X.env:=by rfl)(hpl:(backTo pos (h_ es X.env)).any (·.1)=false:=by rfl):SO X g m (.Call (.Name "list" p) (e::es) [] pos) (fC fl kN):=B7 KR (qk Pd hg hm rfl ha (by decide) (by decide) he hpl)
def tupD:List D->Option D
|[.lst ds]=>some (.tup ds)
|[.tup ds]=>some (.tup ds)
|_=>none
theorem Ka{K:W.Frag}:n9 K (fun xs H Q=>∃p ys,xs=[.ref p]/\((c7 K H p ys/\∀l,H l=none->Q (.ref l) (upd H l (.tup ys)))\/(dQ K H p ys/\Q (.ref p) H))) tupD:=by
 intro G H vs ds d Q gk rs e q;unfold tupD at e;split at e
 .cases e;cases rs with
 |cons r t=>cases t;obtain⟨a,xs,rfl,s,r⟩:=r.lst gk;exact⟨a,xs,rfl,.inl ⟨s,fun l hl=>q _ _ _ (Grow.newF gk hl (.tup (.inl du) r)) (.ref fU)⟩⟩
 .cases e;cases rs with
 |cons r t=>
   cases t;rcases r with r|⟨a,_,o⟩
   .obtain⟨a,xs,rfl,s,r'⟩:=r.tup gk;exact⟨a,xs,rfl,.inr ⟨s,q _ G H (Grow.refl gk) r⟩⟩
   .cases o.ob
 .cases e
theorem oN(hg:Gl X "tuple")(hm:X.mg "tuple" = none)(ha:i0 X g m (e::es) fl)(he:h_ (e::es) X.env=(false,eval e X.env)::h_ es X.env:=by rfl)(hpl:(backTo pos (h_ es X.env)).any (·.1)=false:=by rfl):SE X g m (.Call (.Name "tuple" p) (e::es) [] pos) (fC fl tupD):=jK Ka (qk Pt hg hm rfl ha (by decide) (by decide) he hpl)
def ixD:D->D->Option D
|.lst ds,.int i=>gJ ds i
|.tup ds,.int i=>gJ ds i
|.str z,.int i=>if z.length<=sizeLine then(gJ z.cps.toList i).map fun c=>.str ⟨#[c]⟩else none
|_,_=>none
theorem BP{K:W.Frag}{G:GH}{xs:List V}{ds:List D}{i:Int}{d:D}(r:dy K G xs ds)(h:gJ ds i=some d):∃v,gJ xs i=some v/\RG K G v d:=by unfold gJ at h ⊢;rw[Paired.length r];cases e:iL ds.length i with
|none=>rw[e]at h;cases h
|some j=>rw[e]at h;exact Paired.get r h
theorem vZ{K:W.Frag}:fQ K (Bn K) ixD:=by
 intro G H v1 v2 d1 d2 d Q gk r1 r2 e q;unfold ixD at e;split at e
 .obtain⟨a,xs,rfl,s,r⟩:=r1.lst gk;obtain⟨v,ev,rv⟩:=BP r e;exact .inl ⟨a,xs,_,v,rfl,r2.int gk,s,ev,q v G H (Grow.refl gk) rv⟩
 .obtain⟨a,xs,rfl,s,r⟩:=r1.tup gk;obtain⟨v,ev,rv⟩:=BP r e;exact .inr (.inl ⟨a,xs,_,v,rfl,r2.int gk,s,ev,q v G H (Grow.refl gk) rv⟩)
 .split at e
  .rename_i z i hz;cases ec:gJ z.cps.toList i with
  |none=>rw[ec]at e;cases e
  |some c=>rw[ec]at e;cases e;exact .inr (.inr ⟨z,i,c,r1.str gk,r2.int gk,hz,ec,q _ G H (Grow.refl gk) (.scl (.str _))⟩)
  .cases e
 .cases e
def fN{α:Type}(xs:List α)(lo hi:Option Int):List α:=(xs.drop (HT.sIx xs.length 0 lo)).take (HT.sIx xs.length xs.length hi-HT.sIx xs.length 0 lo)
theorem BQ{α β:Type}{F:α->β->Prop}{xs:List α}{ds:List β}(r:Paired F xs ds)(lo hi:Option Int):Paired F (fN xs lo hi) (fN ds lo hi):=by unfold fN;rw[Paired.length r];exact Paired.tk _ (Paired.dr _ r)
abbrev FP:=aS->Res (Option Int)
def tP(X:Cx)(g:GE)(m:List Md)(f:FP):TO:=fun σ H Q=>∃r G,SI X g m r G σ H/\fin (f r) (fun o=>∀G' H',Grow X.K G H G' H'->Q o H') (XW X σ G H)
def vR(X:Cx)(g:GE)(m:List Md)(e:Option Expr)(f:FP):Prop:=PO X e (tP X g m f)
theorem PO.imp{X:Cx}{e:Option Expr}{t t':TO}(h:PO X e t)(i:∀σ H Q,t' σ H Q->t σ H Q):PO X e t':=fun pz s σ H Q I q=>h pz s σ H Q I (i σ H Q q)
def QA:D->Option Int
|.int i=>some i
|_=>none
def j6(f:FE):FP:=fun r=>(f r).bind fun d=>(dM (QA d)).bind fun i=>.ok (some i)
theorem mR:vR X g m none fun _=>.ok none:=PO.imp Ky fun σ H Q ⟨r,G,si,q⟩=>q G H (Grow.refl si.gok)
theorem mS(h:SB X g m e f):vR X g m (some e) (j6 f):=by
 refine PO.imp (Kz h) fun σ H Q ⟨r,G,si,q⟩=>⟨r,G,si,cY (c6 q) fun d q1 v G1 H1 w1 r1=>?_⟩
 obtain⟨i,e,q2⟩:=dZ (c6 q1);cases d with
|int j=>cases e;exact⟨_,r1.int w1.ok,q2 G1 H1 w1⟩
|_=>cases e
def pC(d:D)(lo hi:Option Int):Option D:=match d with
|.tup ds=>if HT.sIx ds.length 0 lo=0/\HT.sIx ds.length ds.length hi=ds.length then none else some (.tup (fN ds lo hi))
|.lst ds=>some (.lst (fN ds lo hi))
|_=>none
def jS(fa:FE)(fl fh:FP):FE:=fun r=>(fa r).bind fun d=>(fl r).bind fun lo=>(fh r).bind fun hi=>dM (pC d lo hi)
theorem J0{R:V->Option Int->Option Int->Hp->Prop}{fl fh:FP}{r:aS}{G:GH}{σ:L2.St}{H:Hp}{q:D->Prop}(si:SI X g m r G σ H)(h:fin (jS fa fl fh r) q (XW X σ G H))(hk:∀d lo hi v G2 H2 d',Grow X.K G H G2 H2->RB X.K G2 H2 v d->pC d lo hi=some d'->q d'->R v lo hi H2):tB X g m fa σ H fun x H1=>tP X g m fl σ H1 fun l H2=>tP X g m fh σ H2 fun u H3=>R x l u H3:=by refine⟨r,G,si,cY (c6 h) fun d h1 v G1 H1 w1 r1=>⟨r,G1,si.grow w1,iE (c6 h1) w1 fun lo h2 G2 H2 w2=>⟨r,G2,(si.grow w1).grow w2,?_⟩⟩⟩;refine iE (c6 h2) (w1.trans w2) fun hi h3 G3 H3 w3=>?_;obtain⟨d',e,h4⟩:=dZ h3;exact hk d lo hi v G3 H3 d' ((w1.trans w2).trans w3) ((r1.mono w2).mono w3) e h4
theorem mI{lo hi:Option Expr}{fl fh:FP}(he:SB X g m e f)(hl:vR X g m lo fl)(hu:vR X g m hi fh):SE X g m (.Subscript e (.Slice lo hi none p2) pos) (jS f fl fh):=by refine PE.imp (Nc (mw.or Ly J2) he hl hu) fun σ H Q ⟨r,G,si,q⟩=>?_;refine J0 si q fun d lo hi v G2 H2 d' w r1 e q2=>?_;cases d with
|tup ds=>
  obtain⟨a,xs,rfl,s,r⟩:=r1.tup w.ok;have e':(if HT.sIx ds.length 0 lo=0/\HT.sIx ds.length ds.length hi=ds.length then none else some (D.tup (fN ds lo hi)))=some d':=e;by_cases hw:HT.sIx ds.length 0 lo=0/\HT.sIx ds.length ds.length hi=ds.length
  .rw[if_pos hw]at e';cases e'
  rw[if_neg hw]at e';cases e';rw[<-Paired.length r]at hw;refine .inr ⟨a,xs,rfl,s,hw,fun p hp=>?_⟩;exact q2 _ _ _ (w.trans (Grow.newF w.ok hp (.tup (.inl du) (BQ r lo hi)))) (.ref fU)
|lst ds=>cases e;obtain⟨a,xs,rfl,s,r⟩:=r1.lst w.ok;exact .inl ⟨a,xs,rfl,s,fun p hp=>q2 _ _ _ (w.trans (Grow.newF w.ok hp (.lst (.inl du) (BQ r lo hi)))) (.ref fU)⟩
|_=>cases e
end
inductive Out where
 |nx (r:aS)|rt (d:D)|bk (r:aS)|ct (r:aS)|exc (x:D) (r:aS)|stuck
abbrev FS:=aS->Out
def bY(G G':GH):Prop:=∀a d,G a=some d->G' a=some d
theorem bY.refl(G:GH):bY G G:=fun _ _ e=>e
theorem bY.trans{G G1 G2:GH}(a:bY G G1)(b:bY G1 G2):bY G G2:=fun x d e=>b x d (a x d e)
def forget(m:List Md)(r:aS):aS:=Te (fun md o=>if md=Md.sh then o else none) m r
def eh(m:List Md):List Md:=m.map fun _=>Md.sh
theorem qw{m:List Md}{r:aS}{i:Nat}{d:D}(h:(forget m r)[i]? = some (some d)):r[i]? = some (some d)/\m[i]? = some .sh:=by unfold forget at h;rw[Vn]at h;cases e1:m[i]? with
|none=>rw[e1]at h;cases h
|some md=>cases e2:r[i]? with
 |none=>rw[e1,e2]at h;cases h
 |some o=>
   rw[e1,e2]at h;have h':(if md=Md.sh then o else none)=some d:=z_ h;split at h'
   .rename_i hm;subst hm;rw[h'];exact⟨rfl,rfl⟩
   .cases h'
section
variable{X:Cx}{g:GE}{m:List Md}{r:aS}{G:GH}{st:L2.St}{H:Hp}
theorem SI.forget(s:SI X g m r G st H):SI X g (eh m) (forget m r) G st H where
 gok:=s.gok
 old:=s.old
 ge:=s.ge
 gf:=s.gf
 lm:=by rw[eh,p_];exact s.lm
 lr:=by rw[DL.forget,Uj,s.lm,s.lr,Nat.min_self]
 sh:=fun i d h _=>s.sh i d (qw h).1 (qw h).2
 ow:=fun i d h hm=>by rw[eh,F_,(qw h).2]at hm;cases hm
 bw:=fun i d h hm=>by rw[eh,F_,(qw h).2]at hm;cases hm
 dis:=fun i j a d e _ h _ hm=>by rw[eh,F_,(qw h).2]at hm;cases hm
 lk:=fun i o _ hm=>by rw[eh,F_]at hm;cases q:m[i]? <;> rw[q]at hm <;> cases hm
theorem SI.set(s:SI X g m r G st H)(i:Nat){v:V}{d:D}(hv:RG X.K G v d):SI X g (m.set i .sh) (r.set i (some d)) G (st.set i (some v)) H where
 gok:=s.gok
 old:=s.old
 ge:=s.ge
 gf:=s.gf
 lm:=by simp[s.lm]
 lr:=by simp[s.lr]
 sh:=fun j e h hm=>by
  by_cases hij:i=j
  .subst hij;have hl:i<r.length:=by have:=(c_.mp h).1;simpa using this
   rw[n_ hl]at h;cases h;exact⟨v,by rw[n_ (by rw[<-s.lr];exact hl)],hv⟩
  .rw[f_ hij]at h hm;rw[f_ hij];exact s.sh j e h hm
 ow:=fun j e h hm=>by
  by_cases hij:i=j
  .subst hij;have hl:i<m.length:=by have:=(c_.mp hm).1;simpa using this
   rw[n_ hl]at hm;cases hm
  .rw[f_ hij]at h hm;rw[f_ hij];exact s.ow j e h hm
 bw:=fun j e h hm=>by
  by_cases hij:i=j
  .subst hij;have hl:i<m.length:=by have:=(c_.mp hm).1;simpa using this
   rw[n_ hl]at hm;cases hm
  .rw[f_ hij]at h hm;rw[f_ hij];exact s.bw j e h hm
 dis:=fun j k a d1 d2 hjk h1 h2 hm hm' q1 q2=>by
  have hij:i≠j:=by
   rintro rfl
   have hl:i<m.length:=by have:=(c_.mp hm).1;simpa using this
   rw[n_ hl]at hm;cases hm
  have hik:i≠k:=by
   rintro rfl
   have hl:i<m.length:=by have:=(c_.mp h2).1;rw[SN,s.lr,<-s.lm]at this;exact this
   rw[n_ hl]at hm';cases hm'
  rw[f_ hij]at h1 hm q1;rw[f_ hik]at h2 hm' q2;exact s.dis j k a d1 d2 hjk h1 h2 hm hm' q1 q2
 lk:=fun j o hj hm=>by
  have hij:i≠j:=by
   rintro rfl
   have hl:i<m.length:=by have:=(c_.mp hm).1;simpa using this
   rw[n_ hl]at hm;cases hm
  rw[f_ hij]at hm;have:=s.lk j o hj hm;exact⟨by rw[f_ hij];exact this.1,fun d h=>this.2 d (by rw[f_ hij]at h;exact h)⟩
theorem SI.setO(s:SI X g m r G st H)(i:Nat){a:Addr}{d:D}(ho:Own X.K G H a d)(h0:g.h0 a=none)(hx:∀(j:Nat)(b:Addr)(e:D),r[j]? = some (some e)->m[j]? = some Md.ow->st[j]? = some (some (V.ref b))->b≠a):SI X g (m.set i .ow) (r.set i (some d)) G (st.set i (some (V.ref a))) H where
 gok:=s.gok
 old:=s.old
 ge:=s.ge
 gf:=s.gf
 lm:=by simp[s.lm]
 lr:=by simp[s.lr]
 sh:=fun j e h hm=>by
  by_cases hij:i=j
  .subst hij;have hl:i<m.length:=by have:=(c_.mp hm).1;simpa using this
   rw[n_ hl]at hm;cases hm
  .rw[f_ hij]at h hm;rw[f_ hij];exact s.sh j e h hm
 ow:=fun j e h hm=>by
  by_cases hij:i=j
  .subst hij;have hl:i<r.length:=by have:=(c_.mp h).1;simpa using this
   rw[n_ hl]at h;cases h;exact⟨a,by rw[n_ (by rw[<-s.lr];exact hl)],ho,h0⟩
  .rw[f_ hij]at h hm;rw[f_ hij];exact s.ow j e h hm
 bw:=fun j e h hm=>by
  by_cases hij:i=j
  .subst hij;have hl:i<m.length:=by have:=(c_.mp hm).1;simpa using this
   rw[n_ hl]at hm;cases hm
  .rw[f_ hij]at h hm;rw[f_ hij];exact s.bw j e h hm
 dis:=fun j k b d1 d2 hjk h1 h2 hm hm' q1 q2=>by
  by_cases hij:i=j
  .subst hij;rw[f_ hjk]at h2 hm' q2;have hl:i<st.length:=by have:=(c_.mp q1).1;simpa using this
   rw[n_ hl]at q1;have e:a=b:=by injection q1 with q1;injection q1 with q1;injection q1
   exact hx k b d2 h2 hm' q2 e.symm
  .by_cases hik:i=k
   .subst hik;rw[f_ hij]at h1 hm q1;have hl:i<st.length:=by have:=(c_.mp q2).1;simpa using this
    rw[n_ hl]at q2;have e:a=b:=by injection q2 with q2;injection q2 with q2;injection q2
    exact hx j b d1 h1 hm q1 e.symm
   .rw[f_ hij]at h1 hm q1;rw[f_ hik]at h2 hm' q2;exact s.dis j k b d1 d2 hjk h1 h2 hm hm' q1 q2
 lk:=fun j o hj hm=>by
  have hij:i≠j:=by
   rintro rfl
   have hl:i<m.length:=by have:=(c_.mp hm).1;simpa using this
   rw[n_ hl]at hm;cases hm
  rw[f_ hij]at hm;have:=s.lk j o hj hm;exact⟨by rw[f_ hij];exact this.1,fun d h=>this.2 d (by rw[f_ hij]at h;exact h)⟩
theorem SI.other(s:SI X g m r G st H){p:Addr}(hp:G p=none)(h0:g.h0 p=none)(hm:∀(i:Nat),m[i]?≠some Md.ow)(o:HO):SI X g m r G st (upd H p o) where
 gok:=fun b e h=>(s.gok b e h).mono (fun _ _ z=>z) fun o' q=>by rw[cM (by rintro rfl;rw[hp]at h;cases h)];exact q
 old:=fun b o' h=>by rw[cM (by rintro rfl;rw[h0]at h;cases h)];exact s.old b o' h
 ge:=s.ge
 gf:=s.gf
 lm:=s.lm
 lr:=s.lr
 sh:=s.sh
 ow:=fun i d _ h=>absurd h (hm i)
 bw:=fun i d h1 h2=>by
  obtain⟨v,h3,h4⟩:=s.bw i d h1 h2;refine⟨v,h3,?_⟩;rcases h4 with h4|⟨a,rfl,h4,h5⟩
  .exact .inl h4
  .have ha:a≠p:=by rintro rfl;exact h5 h0
   exact .inr ⟨a,rfl,⟨h4.un,h4.ob.mono (fun _ _ z=>z) fun o' z=>by rw[cM ha];exact z⟩,h5⟩
 dis:=fun i j a d e _ _ _ h=>absurd h (hm i)
 lk:=s.lk
theorem SI.less(s:SI X g m r G st H){r':aS}(hl:r'.length=r.length)(h:∀(i:Nat) d,r'[i]? = some (some d)->r[i]? = some (some d)):SI X g m r' G st H:=⟨s.gok,s.old,s.ge,s.gf,s.lm,hl.trans s.lr,fun i d a b=>s.sh i d (h i d a) b,fun i d a b=>s.ow i d (h i d a) b,fun i d a b=>s.bw i d (h i d a) b,fun i j a d e n p q x y=>s.dis i j a d e n (h i d p) (h j e q) x y,fun i o hi hm=>by have:=s.lk i o hi hm;exact⟨this.1,fun d hd=>this.2 d (h i d hd)⟩⟩
theorem SI.held(s:SI X g m r G st H){j:Nat}{b:Addr}{e:D}(h:r[j]? = some (some e))(hm:m[j]? = some .ow)(hs:st[j]? = some (some (V.ref b))):H b≠none:=by
 obtain⟨a,h1,h2,_⟩:=s.ow j e h hm;rw[hs]at h1;injection h1 with h1;injection h1 with h1;injection h1 with h1
 rw[h1];exact h2.ob.isS
theorem SI.setN(s:SI X g m r G st H){G':GH}{H':Hp}(w:Grow X.K G H G' H')(i:Nat){a:Addr}{d:D}(hn:H a=none)(ho:Own X.K G' H' a d):SI X g (m.set i .ow) (r.set i (some d)) G' (st.set i (some (V.ref a))) H':=by
 refine(s.grow w).setO i ho ?_ fun j b e h1 h2 h3=>?_
 .cases q:g.h0 a with
 |none=>rfl
 |some o=>rw[s.old _ _ q]at hn;cases hn
 .rintro rfl
  exact s.held h1 h2 h3 hn
theorem SI.mut(s:SI X g m r G st H){i:Nat}{d:D}(hm:m[i]? = some .ow)(hd:r[i]? = some (some d)):∃a,st[i]? = some (some (V.ref a))/\Own X.K G H a d/\∀(o':HO)(d':D),OwnO X.K G (upd H a o') a d'->SI X g m (r.set i (some d')) G st (upd H a o'):=by
 obtain⟨a,h1,h2,h3⟩:=s.ow i d hd hm;have hl:i<r.length:=(c_.mp hd).1;refine⟨a,h1,h2,fun o' d' ob=>?_⟩;have oth:∀(j:Nat)(b:Addr)(e:D),j≠i->r[j]? = some (some e)->m[j]? = some .ow->st[j]? = some (some (V.ref b))->b≠a:=fun j b e hj q1 q2 q3 z=>by subst z;exact s.dis i j b d e (Sn hj) hd q1 hm q2 h1 q3
 refine⟨fun b e h=>?_,fun b o h=>?_,s.ge,s.gf,s.lm,by simp[s.lr],?_,?_,?_,?_,fun j o hj hm'=>?_⟩
 .have hb:b≠a:=by rintro rfl;rw[h2.un]at h;cases h
  exact(s.gok b e h).mono (fun _ _ z=>z) fun o q=>by rw[cM hb];exact q
 .have hb:b≠a:=by rintro rfl;rw[h3]at h;cases h
  rw[cM hb];exact s.old b o h
 .intro j e h hm';have hij:i≠j:=by rintro rfl;rw[hm]at hm';cases hm'
  rw[f_ hij]at h;exact s.sh j e h hm'
 .intro j e h hm';by_cases hij:i=j
  .subst hij;rw[n_ hl]at h;cases h;exact⟨a,h1,⟨h2.un,ob⟩,h3⟩
  .rw[f_ hij]at h;obtain⟨b,q1,q2,q3⟩:=s.ow j e h hm';have hb:=oth j b e (Sn hij) h hm' q1;exact⟨b,q1,⟨q2.un,q2.ob.mono (fun _ _ z=>z) fun o z=>by rw[cM hb];exact z⟩,q3⟩
 .intro j e h hm';have hij:i≠j:=by rintro rfl;rw[hm]at hm';cases hm'
  rw[f_ hij]at h;obtain⟨v,q1,q2⟩:=s.bw j e h hm';refine⟨v,q1,?_⟩;rcases q2 with q2|⟨b,rfl,q2,q3⟩
  .exact .inl q2
  .have hb:b≠a:=by rintro rfl;exact q3 h3
   exact .inr ⟨b,rfl,⟨q2.un,q2.ob.mono (fun _ _ z=>z) fun o z=>by rw[cM hb];exact z⟩,q3⟩
 .have bound:∀(j:Nat) e,(r.set i (some d'))[j]? = some (some e)->∃e',r[j]? = some (some e'):=fun j e h=>by
   by_cases hij:i=j
   .subst hij;exact⟨d,hd⟩
   .rw[f_ hij]at h;exact⟨e,h⟩
  intro j k b d1 d2 hjk q1 q2 p1 p2 z1 z2;obtain⟨e1,q1⟩:=bound j d1 q1;obtain⟨e2,q2⟩:=bound k d2 q2;exact s.dis j k b e1 e2 hjk q1 q2 p1 p2 z1 z2
 .have hij:i≠j:=by rintro rfl;rw[hm]at hm';cases hm'
  have:=s.lk j o hj hm';exact⟨this.1,fun d'' h=>this.2 d'' (by rw[f_ hij]at h;exact h)⟩
end
def RV(ro:Bool)(K:W.Frag)(H0:Hp)(G:GH)(H:Hp)(v:V)(d:D):Prop:=match ro with
|false=>RG K G v d
|true=>(∃a,v=.ref a/\H0 a=none/\Own K G H a d)\/(d=.non/\v=.non)
def dC(X:Cx)(g:GE)(ro:Bool)(m' mb:List Md)(G:GH)(D:Ends):Out->Prop
|.nx r'=>∀σ' G' H',bY G G'->SI X g m' r' G' σ' H'->D.nx σ' H'
|.rt d=>∀v G' H',Grow X.K g.gh g.h0 G' H'->RV ro X.K g.h0 G' H' v d->D.rt v H'
|.bk r'=>∀σ' G' H',bY G G'->SI X g mb r' G' σ' H'->D.bk σ' H'
|.ct r'=>∀σ' G' H',bY G G'->SI X g mb r' G' σ' H'->D.ct σ' H'
|.exc x r'=>∀pz e s' σ' G' H',bY G G'->SI X g (eh m') r' G' σ' H'->Inv X pz σ' H' s'->GG X σ' G' H' e x s'->X.xe e s'
|.stuck=>False
def tS(X:Cx)(g:GE)(ro:Bool)(m m' mb:List Md)(f:FS):TS:=fun D σ H=>∃r G,SI X g m r G σ H/\dC X g ro m' mb G D (f r)
def SS(X:Cx)(g:GE)(ro:Bool)(mb m:List Md)(st:Stmt)(f:FS)(m':List Md):Prop:=m'.length=m.length/\PS X st (tS X g ro m m' mb f)
def fP(X:Cx)(g:GE)(ro:Bool)(mb m:List Md)(st:List Stmt)(f:FS)(m':List Md):Prop:=m'.length=m.length/\eY X st (tS X g ro m m' mb f)
theorem tu{m m':List Md}(h:m'.length=m.length):eh m'=eh m:=by unfold eh;rw[Ug,Ug,h]
theorem dC.x{X:Cx}{g:GE}{ro:Bool}{m m' mb:List Md}{r:aS}{G:GH}{D:Ends}{σ:L2.St}{H:Hp}{x:DL.D}(h:dC X g ro m' mb G D (.exc x (forget m r)))(si:SI X g m r G σ H)(hl:m'.length=m.length):XW X σ G H x:=fun pz e s' G' H' w I ex=>h pz e s' σ G' H' w.ge (by rw[tu hl];exact(si.grow w).forget) I ex
section
variable{X:Cx}{g:GE}{ro:Bool}{m m' m1 mb:List Md}{e a b c tg:Expr}{f fa fb fc:FE}{p:FQ}{pos pos':Pos}{st:Stmt}{sts sts':List Stmt}{s1 s2:FS}
theorem dC.gle{G G1:GH}{D:Ends}{o:Out}(h:dC X g ro m' mb G D o)(w:bY G G1):dC X g ro m' mb G1 D o:=by cases o with
|nx r'=>exact fun σ' G' H' q si=>h σ' G' H' (w.trans q) si
|rt d=>exact h
|bk r'=>exact fun σ' G' H' q si=>h σ' G' H' (w.trans q) si
|ct r'=>exact fun σ' G' H' q si=>h σ' G' H' (w.trans q) si
|exc x r'=>exact fun pz e s' σ' G' H' q=>h pz e s' σ' G' H' (w.trans q)
|stuck=>exact h
def seqF(s1 s2:FS):FS:=fun r=>match s1 r with
|.nx r'=>s2 r'
|o=>o
def bN:FS:=fun r=>.nx r
theorem bO:fP X g ro mb m [] bN m:=⟨rfl,eY.imp KF fun D σ H ⟨r,G,si,q⟩=>q σ G H (bY.refl G) si⟩
theorem aT(h1:SS X g ro mb m st s1 m1)(h2:fP X g ro mb m1 sts s2 m'):fP X g ro mb m (st::sts) (seqF s1 s2) m':=by refine⟨h2.1.trans h1.1,eY.imp (Ew h1.2 h2.2) fun D σ H ⟨r,G,si,q⟩=>⟨r,G,si,?_⟩⟩;unfold seqF at q;cases e:s1 r with
|nx r'=>rw[e]at q;exact fun σ' G' H' w si'=>⟨r',G',si',dC.gle q w⟩
|rt d=>rw[e]at q;exact q
|bk r'=>rw[e]at q;exact q
|ct r'=>rw[e]at q;exact q
|exc x r'=>rw[e]at q;exact fun pz e s' σ' G' H' w si'=>q pz e s' σ' G' H' w (by rw[tu h2.1];exact si')
|stuck=>rw[e]at q;exact q
theorem Lv:SS X g ro mb m st (fun _=>.stuck) m:=⟨rfl,PS.imp Nj fun D σ H ⟨r,G,si,q⟩=>q⟩
theorem sW:fP X g ro mb m sts (fun _=>.stuck) m:=⟨rfl,eY.imp N0 fun D σ H ⟨r,G,si,q⟩=>q⟩
theorem pM(i:Nat)(hi:m[i]? = some .ow)(h:SS X g ro mb (m.set i .sh) st s1 m'):SS X g ro mb m st s1 m':=by
 refine⟨h.1.trans (by simp),fun pz s σ H D I ⟨r,G,si,q⟩=>?_⟩;rcases si.frz i hi with⟨G',le,si'⟩|⟨a,z⟩
 .exact h.2 pz s σ H D I ⟨r,G',si',dC.gle q le⟩
 .obtain⟨ob,I2⟩:=Inv.fast I a;obtain⟨G',le,si'⟩:=z ob;exact h.2 pz s σ _ D I2 ⟨r,G',si',dC.gle q le⟩
def onE{α:Type}(m:List Md)(r:aS)(x:Res α)(k:α->Out):Out:=match x with
|.ok a=>k a
|.exc e=>.exc e (forget m r)
|.stuck=>.stuck
@[simp] theorem onE_ok{α:Type}(m:List Md)(r:aS)(a:α)(k:α->Out):onE m r (.ok a) k=k a:=rfl
theorem ip{α:Type}{x:Res α}{k:α->Out}{r:aS}{G:GH}{D:Ends}{σ:L2.St}{H:Hp}(si:SI X g m r G σ H)(hl:m'.length=m.length)(h:dC X g ro m' mb G D (onE m r x k)):fin x (fun a=>dC X g ro m' mb G D (k a)) (XW X σ G H):=by cases x with
|ok a=>exact h
|exc e=>exact dC.x h si hl
|stuck=>exact h
def aV(m:List Md)(i:Nat)(f:FE):FS:=fun r=>onE m r (f r) fun d=>.nx (r.set i (some d))
theorem Ha(i:Nat){x:Str}(hN:X.N.Nodup)(hi:X.N[i]? = some x)(hx:j0 X.env.scope x)(he:SE X g m e f)(hs:TY e (some (.Name x pos')) pos.line X.env=pure false:=by rfl)(hf:X.fn x=true\/X.env.scope.names.lookup x=some .local:=by first|exact .inl rfl|exact .inr rfl|assumption):SS X g ro mb m (.Assign [.Name x pos'] e pos) (aV m i f) (m.set i .sh):=by
 have hl:(m.set i .sh).length=m.length:=by simp
 refine⟨hl,PS.imp (CP hN hi hx he hs hf) fun D σ H ⟨r,G,si,q⟩=>⟨r,G,si,?_⟩⟩;exact cY (ip si hl q) fun d q v G' H' w rv=>q _ G' H' w.ge ((si.grow w).set i rv)
theorem io(i:Nat){x:Str}(hN:X.N.Nodup)(hi:X.N[i]? = some x)(hx:j0 X.env.scope x)(he:SO X g m e f)(hs:TY e (some (.Name x pos')) pos.line X.env=pure false:=by rfl)(hf:X.fn x=true\/X.env.scope.names.lookup x=some .local:=by first|exact .inl rfl|exact .inr rfl|assumption):SS X g ro mb m (.Assign [.Name x pos'] e pos) (aV m i f) (m.set i .ow):=by
 have hl:(m.set i .ow).length=m.length:=by simp
 refine⟨hl,PS.imp (CP hN hi hx he hs hf) fun D σ H ⟨r,G,si,q⟩=>⟨r,G,si,?_⟩⟩;exact cY (ip si hl q) fun d q a G' H' w hn ho=>q _ G' H' w.ge (si.setN w i hn ho)
def kM(m:List Md)(f:FE):FS:=fun r=>onE m r (f r) fun _=>.nx r
theorem ox(he:SE X g m e f)(hs:TY e none pos.line X.env=pure false:=by rfl):SS X g ro mb m (.Expr e pos) (kM m f) m:=⟨rfl,PS.imp (yA he hs) fun D σ H ⟨r,G,si,q⟩=>⟨r,G,si,cY (ip si rfl q) fun d q v G' H' w _=>q σ G' H' w.ge (si.grow w)⟩⟩
def retF(m:List Md)(f:FE):FS:=fun r=>onE m r (f r) fun d=>.rt d
theorem c9(he:SE X g m e f):SS X g false mb m (.Return (some e) pos) (retF m f) m:=⟨rfl,PS.imp (IQ he) fun D σ H ⟨r,G,si,q⟩=>⟨r,G,si,cY (ip si rfl q) fun d q v G' H' w rv=>q v G' H' (si.grow w).grown rv⟩⟩
def d8(m:List Md)(p:FQ)(s1 s2:FS):FS:=fun r=>onE m r (p r) fun c=>if c=true then s1 r else s2 r
theorem de(hc:SQ X g m c p)(h1:fP X g ro mb m sts s1 m')(h2:fP X g ro mb m sts' s2 m'):SS X g ro mb m (.If c sts sts' pos) (d8 m p s1 s2) m':=by refine⟨h1.1,PS.imp (GV hc h1.2 h2.2) fun D σ H ⟨r,G,si,q⟩=>⟨r,G,si,cY (ip si h1.1 q) fun c q G' H' w=>?_⟩⟩;cases c with
|true=>rw[if_pos rfl]at q ⊢;exact⟨r,G',si.grow w,dC.gle q w.ge⟩
|false=>rw[if_neg i_]at q ⊢;exact⟨r,G',si.grow w,dC.gle q w.ge⟩
theorem tN(i:Nat)(h:fP X g ro mb m sts s1 m')(hi:m'[i]? = some .ow):fP X g ro mb m sts s1 (m'.set i .sh):=by
 refine⟨by simp[h.1],fun pz s σ H D I ⟨r,G,si,q⟩=>?_⟩;refine bU (h.2 pz s σ H ⟨fun σ' H'=>D.nx σ' H'\/∃a,∀ob,D.nx σ' (fz H' a ob),D.rt,D.bk,D.ct⟩ I ⟨r,G,si,?_⟩) fun f s' p=>?_
 .cases e:s1 r with
 |nx r'=>
   rw[e]at q;intro σ' G' H' w si';rcases si'.frz i hi with⟨G2,le,si2⟩|⟨a,z⟩
   .exact .inl (q σ' G2 H' (w.trans le) si2)
   .refine .inr ⟨a,fun ob=>?_⟩;obtain⟨G2,le,si2⟩:=z ob;exact q σ' G2 _ (w.trans le) si2
 |rt d=>rw[e]at q;exact q
 |bk r'=>rw[e]at q;exact q
 |ct r'=>rw[e]at q;exact q
 |exc x r'=>rw[e]at q;exact fun pz e s' σ' G' H' w si'=>q pz e s' σ' G' H' w (by rw[tu (m:=m') (by simp)];exact si')
 |stuck=>rw[e]at q;exact q
 .cases f with
 |next=>
   obtain⟨σ',H',I',z|⟨a,z⟩⟩:=p
   .exact⟨σ',H',I',z⟩
   .obtain⟨ob,I2⟩:=Inv.fast I' a;exact⟨σ',_,I2,z ob⟩
 |brk=>exact p
 |cont=>exact p
 |ret u=>exact p
end
abbrev FT:=D->aS->Option aS
abbrev kz:=List D->aS->Option aS
def tG(X:Cx)(g:GE)(m m':List Md)(ft:FT):TG:=fun v σ H Q=>∃r G d,SI X g m r G σ H/\RG X.K G v d/\∃r',ft d r=some r'/\∀σ',SI X g m' r' G σ' H->Q σ' H
def Qv(X:Cx)(g:GE)(m m':List Md)(ft:kz):ky:=fun vs σ H Q=>∃r G ds,SI X g m r G σ H/\dy X.K G vs ds/\∃r',ft ds r=some r'/\∀σ',SI X g m' r' G σ' H->Q σ' H
theorem PG.imp{X:Cx}{e:Expr}{t t':TG}(h:PG X e t)(i:∀v σ H Q,t' v σ H Q->t v σ H Q):PG X e t':=fun pz s σ H v u Q I r q=>h pz s σ H v u Q I r (i v σ H Q q)
theorem jY.imp{X:Cx}{e:List Expr}{t t':ky}(h:jY X e t)(i:∀v σ H Q,t' v σ H Q->t v σ H Q):jY X e t':=fun pz s σ H v u Q I r q=>h pz s σ H v u Q I r (i v σ H Q q)
def SG(X:Cx)(g:GE)(m:List Md)(tg:Expr)(ft:FT)(m':List Md):Prop:=m'.length=m.length/\PG X tg (tG X g m m' ft)
structure SGs(X:Cx)(g:GE)(m:List Md)(ts:List Expr)(n:Nat)(ft:kz)(m':List Md):Prop where
 ml:m'.length=m.length
 ln:∀ds r r',ft ds r=some r'->ds.length=n
 pg:jY X ts (Qv X g m m' ft)
def cU(i:Nat):FT:=fun d r=>some (r.set i (some d))
def ir(ft:kz):FT:=fun d r=>match d with
|.tup ds=>ft ds r
|.lst ds=>ft ds r
|_=>none
def il:kz:=fun ds r=>match ds with
|[]=>some r
|_=>none
def eJ(ft:FT)(fts:kz):kz:=fun ds r=>match ds with
|[]=>none
|d::ds=>(ft d r).bind fun r'=>fts ds r'
section
variable{X:Cx}{g:GE}{m m' m1:List Md}{tg:Expr}{ts:List Expr}{ft:FT}{fts:kz}{pos:Pos}{n:Nat}
theorem Ix(i:Nat){x:Str}(hN:X.N.Nodup)(hi:X.N[i]? = some x)(hx:j0 X.env.scope x)(hf:X.fn x=true\/X.env.scope.names.lookup x=some .local:=by first|exact .inl rfl|exact .inr rfl|assumption):SG X g m (.Name x pos) (cU i) (m.set i .sh):=⟨by simp,PG.imp (Kv hN hi hx hf) fun v σ H Q ⟨r,G,d,si,rv,r',e,k⟩=>by cases e;exact k _ (si.set i rv)⟩
theorem rP:SGs X g m [] 0 il m:=by
 refine⟨rfl,fun ds r r' e=>?_,jY.imp Kw fun v σ H Q ⟨r,G,ds,si,rv,r',e,k⟩=>?_⟩
 .cases ds with
 |nil=>rfl
 |cons _ _=>cases e
 .cases rv with
 |nil=>cases e;exact⟨rfl,k σ si⟩
 |cons _ _=>cases e
theorem lV(h1:SG X g m tg ft m1)(h2:SGs X g m1 ts n fts m')(hs:(RJ (tg::ts) X.env).map (·.2)=Uv tg X.env::(RJ ts X.env).map (·.2):=by rfl):SGs X g m (tg::ts) (n+1) (eJ ft fts) m':=by
 refine⟨h2.ml.trans h1.1,fun ds r r' e=>?_,jY.imp (Nd h1.2 h2.pg hs) fun v σ H Q ⟨r,G,ds,si,rv,r',e,k⟩=>?_⟩
 .cases ds with
 |nil=>cases e
 |cons d ds=>have e':((ft d r).bind fun r'=>fts ds r')=some r':=e;cases q:ft d r with
  |none=>rw[q]at e';cases e'
  |some r1=>rw[q]at e';have:=h2.ln ds r1 r' e';simp[this]
 .cases rv with
 |nil=>cases e
 |@cons v0 d vs ds rv rs=>have e':((ft d r).bind fun r'=>fts ds r')=some r':=e;cases q:ft d r with
  |none=>rw[q]at e';cases e'
  |some r1=>rw[q]at e';exact⟨_,_,rfl,r,G,d,si,rv,r1,q,fun σ' si'=>⟨r1,G,ds,si',rs,r',e',k⟩⟩
theorem II{k:Nat}{t:ky}(hc:X.calm=true)(h:jY X ts t)(hn:(RJ ts X.env).length=n)(hst:(RJ ts X.env).findIdx? (·.1)=none):PG X (.Tuple ts k pos) (fun v σ H Q=>∃a xs,v=.ref a/\c7 X.K H a xs/\xs.length=n/\t xs σ H Q):=by intro pz s σ H v u Q I r hw;obtain⟨a,xs,e1,hq,hl,hw⟩:=hw;subst e1;cases r;obtain⟨its,rv,⟨o,nn,l1,l2,l3,l4⟩,hz⟩:=I.list hq;rw[XB];refine b_ (Tj ?_);unfold unpack;rw[hst,show(RJ ts X.env).length=its.toArray.size by simp[hn,<-hl,rv.length]];refine b_ (Ro (W.kun_itemsOf (I.ok.hd hc) ⟨o,l1,l2,nn,l4⟩ fun h' hx=>?_));have I1:Inv X pz σ H { s with heap:=h' }:=I.kept (t':=s.toks) fun b o e=>hx b o (O_ (s_ e)) e;exact h pz _ σ H xs _ Q I1 (by simpa using rv) hw
theorem PG.or{e:Expr}{t t':TG}(h:PG X e t)(h':PG X e t'):PG X e (fun v σ H Q=>t v σ H Q\/t' v σ H Q):=fun pz s σ H v u Q I r q=>q.elim (h pz s σ H v u Q I r) (h' pz s σ H v u Q I r)
theorem rQ{k:Nat}(hc:X.calm=true)(h:SGs X g m ts n fts m')(hn:(RJ ts X.env).length=n:=by rfl)(hst:(RJ ts X.env).findIdx? (·.1)=none:=by rfl):SG X g m (.Tuple ts k pos) (ir fts) m':=by refine⟨h.ml,PG.imp (PG.or (IH hc h.pg hn hst) (II hc h.pg hn hst)) fun v σ H Q ⟨r,G,d,si,rv,r',e,k⟩=>?_⟩;cases d with
|tup ds=>obtain⟨a,xs,rfl,s,rs⟩:=rv.tup si.gok;exact .inl ⟨a,xs,rfl,s,(Paired.length rs).trans (h.ln ds r r' e),r,G,ds,si,rs,r',e,k⟩
|lst ds=>obtain⟨a,xs,rfl,s,rs⟩:=rv.lst si.gok;exact .inr ⟨a,xs,rfl,s,(Paired.length rs).trans (h.ln ds r r' e),r,G,ds,si,rs,r',e,k⟩
|_=>cases e
end
structure Yields(K:W.Frag)(J:It)(ds:List D)(G0:GH):Prop where
 go:∀G H (i:Nat),bY G0 G->bZ K G H->i<ds.length->J.go i H
 yld:∀G H (i:Nat) x H' d,bY G0 G->bZ K G H->J.yld i H x H'->ds[i]? = some d->∃G',Grow K G H G' H'/\RG K G' x d
 stop:∀G H,bY G0 G->bZ K G H->J.stop ds.length H
abbrev FI:=aS->Res (List D)
def tI(X:Cx)(g:GE)(m:List Md)(f:FI):TI:=fun σ H R=>∃r G,SI X g m r G σ H/\fin (f r) (fun ds=>∀J G' H',Grow X.K G H G' H'->Yields X.K J ds G'->R J H') (XW X σ G H)
def jW(X:Cx)(g:GE)(m:List Md)(tg iter:Expr)(f:FI):Prop:=PI X tg iter (tI X g m f)
theorem PI.imp{X:Cx}{tg e:Expr}{t t':TI}(h:PI X tg e t)(i:∀σ H Q,t' σ H Q->t σ H Q):PI X tg e t':=fun pz s σ H R I q=>h pz s σ H R I (i σ H R q)
theorem xX{K:W.Frag}{a:Addr}{ds:List D}{G0:GH}(h0:RG K G0 (.ref a) (.lst ds)):Yields K (rH K a) ds G0:=by
 have at_:∀G H,bY G0 G->bZ K G H->∃xs,c7 K H a xs/\dy K G xs ds:=fun G H w gk=>by obtain⟨b,xs,e,s,r⟩:=(h0.mono w).lst gk;cases e;exact⟨xs,s,r⟩
 refine⟨fun G H i w gk hi=>?_,fun G H i x H' d w gk y e=>?_,fun G H w gk=>?_⟩
 .obtain⟨xs,s,r⟩:=at_ G H w gk;have hl:=Paired.length r;exact⟨xs,xs[i],s,g_ (by omega)⟩
 .obtain⟨xs,s,r⟩:=at_ G H w gk;obtain⟨rfl,y⟩:=y;obtain⟨v,e1,rv⟩:=Paired.get r e;have:=y xs s;rw[e1]at this;cases this;exact⟨G,Grow.refl gk,rv⟩
 .obtain⟨xs,s,r⟩:=at_ G H w gk;exact⟨xs,s,Up (Paired.length r)⟩
theorem xG{K:W.Frag}{a:Addr}{ds:List D}{G0:GH}(h0:RG K G0 (.ref a) (.tup ds)):Yields K (BG K a) ds G0:=by
 have at_:∀G H,bY G0 G->bZ K G H->∃xs,dQ K H a xs/\dy K G xs ds:=fun G H w gk=>by obtain⟨b,xs,e,s,r⟩:=(h0.mono w).tup gk;cases e;exact⟨xs,s,r⟩
 refine⟨fun G H i w gk hi=>?_,fun G H i x H' d w gk y e=>?_,fun G H w gk=>?_⟩
 .obtain⟨xs,s,r⟩:=at_ G H w gk;have hl:=Paired.length r;exact⟨xs,xs[i],s,g_ (by omega)⟩
 .obtain⟨xs,s,r⟩:=at_ G H w gk;obtain⟨rfl,y⟩:=y;obtain⟨v,e1,rv⟩:=Paired.get r e;have:=y xs s;rw[e1]at this;cases this;exact⟨G,Grow.refl gk,rv⟩
 .obtain⟨xs,s,r⟩:=at_ G H w gk;exact⟨xs,s,Up (Paired.length r)⟩
def eD(lo:Int)(n:Nat):List D:=(C_ n).map fun(i:Nat)=>D.int (lo+(i:Int))
theorem CY{K:W.Frag}{lo:Int}{n:Nat}{G0:GH}:Yields K (rG lo n) (eD lo n) G0:=by
 have hl:(eD lo n).length=n:=by simp[eD]
 refine⟨fun G H i w gk hi=>(by rw[hl]at hi;exact hi),fun G H i x H' d w gk y e=>?_,fun G H w gk=>(by rw[hl];exact r_ _)⟩;obtain⟨rfl,rfl⟩:=y;have hi:i<n:=by have:=(c_.mp e).1;rw[hl]at this;exact this
 unfold eD at e;rw[F_,Uk hi]at e;cases e;exact⟨G,Grow.refl gk,.scl (.int _)⟩
def dY:D->Option (List D)
|.lst ds=>some ds
|.tup ds=>some ds
|_=>none
section
variable{X:Cx}{g:GE}{m m' m1 mb:List Md}{tg e a b c iter:Expr}{f fa fb:FE}{p:FQ}{pos pos':Pos}{ro:Bool}{fl:aS->Res (List D)}{sts:List Stmt}{s1:FS}
def df(k:D->Option (List D))(f:FE):FI:=fun r=>(f r).bind fun d=>dM (k d)
theorem wW{l:Expr}{tl:TE}(hl:PE X l tl):PI X tg l (fun σ H R=>tl σ H fun x H1=>(∃a,x=.ref a/\(∃xs,c7 X.K H1 a xs)/\R (rH X.K a) H1)\/∃a,x=.ref a/\(∃xs,dQ X.K H1 a xs)/\R (BG X.K a) H1):=by
 intro pz s σ H R I h;refine bU (hl pz s σ H _ I h) fun v s1 ⟨x,H1,I1,r1,q1⟩=>?_;rcases q1 with⟨a,e,⟨xs,hq⟩,q⟩|⟨a,e,⟨xs,hq⟩,q⟩
 .subst e;cases r1;obtain⟨its,rv,p,hz⟩:=I1.list hq;refine S4 p.isList ?_;refine⟨s1.heap.objs.size,[s1.heap.objs.size],_,_,H1,rfl,I1.kept (t':=s1.toks) fun b o e=>e_ _ e,O6 a _,⟨_,x_ _ rfl,rfl,rfl⟩,fun b hb=>?_,q⟩;have e:b=s1.heap.objs.size:=by simpa using hb
  subst e;exact I1.fpOk (r_ _) (I1.hok.fresh (r_ _))
 .subst e;cases r1;obtain⟨its,rv,p,hz⟩:=I1.tuple hq;refine Rr (show s1.heap.IsTuple a its.toArray from p) ?_;refine⟨s1.heap.objs.size,[s1.heap.objs.size],_,_,H1,rfl,I1.kept (t':=s1.toks) fun b o e=>e_ _ e,OL a _,⟨_,x_ _ rfl,rfl,rfl⟩,fun b hb=>?_,q⟩;have e:b=s1.heap.objs.size:=by simpa using hb
  subst e;exact I1.fpOk (r_ _) (I1.hok.fresh (r_ _))
theorem rS(h:SE X g m e f):jW X g m tg e (df dY f):=by
 refine PI.imp (wW h) fun σ H R ⟨r,G,si,q⟩=>⟨r,G,si,cY (c6 q) fun d q v G' H' w rv=>?_⟩
 obtain⟨ds,e,q⟩:=dZ q;cases d with
|lst ds'=>cases e;obtain⟨a,xs,rfl,s,rs⟩:=rv.lst w.ok;exact .inl ⟨a,rfl,⟨xs,s⟩,q _ G' H' w (xX rv)⟩
|tup ds'=>cases e;obtain⟨a,xs,rfl,s,rs⟩:=rv.tup w.ok;exact .inr ⟨a,rfl,⟨xs,s⟩,q _ G' H' w (xG rv)⟩
|_=>cases e
structure YieldsC(K:W.Frag)(J:It)(ds:List D)(G0:GH)(H0:Hp):Prop where
 go:∀G H (i:Nat),Grow K G0 H0 G H->i<ds.length->J.go i H
 yld:∀G H (i:Nat) x H' d,Grow K G0 H0 G H->J.yld i H x H'->ds[i]? = some d->∃G',Grow K G H G' H'/\RG K G' x d
 stop:∀G H,Grow K G0 H0 G H->J.stop ds.length H
theorem Yields.toC{K:W.Frag}{J:It}{ds:List D}{G0:GH}{H0:Hp}(y:Yields K J ds G0):YieldsC K J ds G0 H0:=⟨fun G H i w hi=>y.go G H i w.ge w.ok hi,fun G H i x H' d w q e=>y.yld G H i x H' d w.ge w.ok q e,fun G H w=>y.stop G H w.ge w.ok⟩
def Qt(X:Cx)(g:GE)(m:List Md)(f:FI):TI:=fun σ H R=>∃r G,SI X g m r G σ H/\fin (f r) (fun ds=>∀J G' H',Grow X.K G H G' H'->YieldsC X.K J ds G' H'->R J H') (XW X σ G H)
def jV(X:Cx)(g:GE)(m:List Md)(tg iter:Expr)(f:FI):Prop:=PI X tg iter (Qt X g m f)
theorem jW.toC{fi:FI}(h:jW X g m tg iter fi):jV X g m tg iter fi:=PI.imp h fun σ H R ⟨r,G,si,q⟩=>⟨r,G,si,cY q fun ds k J G' H' w y=>k J G' H' w y.toC⟩
theorem Kg{K:W.Frag}{a:Addr}{ds:List D}{G0:GH}{H0:Hp}(o:Own K G0 H0 a (.lst ds)):YieldsC K (rH K a) ds G0 H0:=by
 have at_:∀G H,Grow K G0 H0 G H->∃xs,c7 K H a xs/\dy K G xs ds:=fun G H w=>by cases(o.mono w).ob with
 |lst r s=>exact⟨_,c7.of r,s⟩
 refine⟨fun G H i w hi=>?_,fun G H i x H' d w y e=>?_,fun G H w=>?_⟩
 .obtain⟨xs,s,r⟩:=at_ G H w;have hl:=Paired.length r;exact⟨xs,xs[i],s,g_ (by omega)⟩
 .obtain⟨xs,s,r⟩:=at_ G H w;obtain⟨rfl,y⟩:=y;obtain⟨v,e1,rv⟩:=Paired.get r e;have:=y xs s;rw[e1]at this;cases this;exact⟨G,Grow.refl w.ok,rv⟩
 .obtain⟨xs,s,r⟩:=at_ G H w;exact⟨xs,s,Up (Paired.length r)⟩
theorem ju(h:SB X g m e f):jV X g m tg e (df dY f):=by
 refine PI.imp (wW h) fun σ H R ⟨r,G,si,q⟩=>⟨r,G,si,cY (c6 q) fun d q v G' H' w rv=>?_⟩
 obtain⟨ds,e,q⟩:=dZ q;cases d with
|lst ds'=>
  cases e;rcases rv with rv|⟨a,rfl,o⟩
  .obtain⟨a,xs,rfl,s,rs⟩:=rv.lst w.ok;exact .inl ⟨a,rfl,⟨xs,s⟩,q _ G' H' w (xX rv).toC⟩
  .cases o.ob with
  |lst r s=>exact .inl ⟨a,rfl,⟨_,c7.of r⟩,q _ G' H' w (Kg o)⟩
|tup ds'=>
  cases e;rcases rv with rv|⟨a,rfl,o⟩
  .obtain⟨a,xs,rfl,s,rs⟩:=rv.tup w.ok;exact .inr ⟨a,rfl,⟨xs,s⟩,q _ G' H' w (xG rv).toC⟩
  .cases o.ob
|_=>cases e
def gM:List D->Option (List D)
|[.int j]=>if-(2^62)<=j/\j<2^62 then some (eD 0 j.toNat)else none
|_=>none
def jL:List D->Option (List D)
|[.int i,.int j]=>if-(2^62)<=i/\i<2^62/\-(2^62)<=j/\j<2^62 then some (eD i (j-i).toNat)else none
|_=>none
def gC(k:List D->Option (List D))(fl:aS->Res (List D)):FI:=fun r=>(fl r).bind fun ds=>dM (k ds)
theorem qa{pn:Pos}(hg:Gl X "range")(hm:X.mg "range" = none)(ha:i0 X g m [a] fl)(hs:h_ [a] X.env=[(false,eval a X.env)]:=by rfl):jW X g m tg (.Call (.Name "range" pn) [a] [] pos) (gC gM fl):=by
 refine PI.imp (NX hg hm ha hs) fun σ H R ⟨r,G,si,q⟩=>⟨r,G,si,cY (c6 q) fun ds q vs G' H' w rs=>?_⟩
 obtain⟨zs,e,q⟩:=dZ q;unfold gM at e;split at e
 .split at e
  .rename_i j hj;cases e;cases rs with
  |cons r1 t=>cases t;exact⟨j,by rw[r1.int w.ok],hj.1,hj.2,q _ G' H' w CY⟩
  .cases e
 .cases e
theorem Mi{pn:Pos}(hg:Gl X "range")(hm:X.mg "range" = none)(ha:i0 X g m [a,b] fl)(hs:h_ [a,b] X.env=[(false,eval a X.env),(false,eval b X.env)]:=by rfl)(hs2:h_ [b] X.env=[(false,eval b X.env)]:=by rfl):jW X g m tg (.Call (.Name "range" pn) [a,b] [] pos) (gC jL fl):=by
 refine PI.imp (NY hg hm ha hs hs2) fun σ H R ⟨r,G,si,q⟩=>⟨r,G,si,cY (c6 q) fun ds q vs G' H' w rs=>?_⟩
 obtain⟨zs,e,q⟩:=dZ q;unfold jL at e;split at e
 .split at e
  .rename_i i j hj;cases e;cases rs with
  |cons r1 t=>cases t with
   |cons r2 t=>cases t;exact⟨i,j,by rw[r1.int w.ok,r2.int w.ok],hj,q _ G' H' w CY⟩
  .cases e
 .cases e
def bT(ft:FT)(body:FS):List D->FS
|[],r=>.nx r
|d::ds,r=>match ft d r with
 |none=>.stuck
 |some r1=>match body r1 with
  |.nx r'=>bT ft body ds r'
  |.ct r'=>bT ft body ds r'
  |.bk r'=>.nx r'
  |o=>o
def g6(m:List Md)(fi:FI)(ft:FT)(body:FS):FS:=fun r=>onE m r (fi r) fun ds=>bT ft body ds r
theorem mG(hp:UW (D_ X.prog X.w) X.A X.env X.xe)(hc:X.calm=true){ft:FT}{fi:FI}(hi:jW X g m tg iter fi)(hg:SG X g m tg ft m)(hb:fP X g ro m m sts s1 m)(hs:∀x,Rv iter X.env x=pure x:=by intro _;rfl):SS X g ro mb m (.For tg iter sts [] pos) (g6 m fi ft s1) m:=by
 refine⟨rfl,PS.imp (wX hp hc hi hg.2 hb.2 hs) fun D σ H ⟨r,G,si,q⟩=>⟨r,G,si,cY (ip si rfl q) fun ds q J G0 H0 w0 Y=>?_⟩⟩;refine⟨fun i n σ H=>∃r G,SI X g m r G σ H/\bY G0 G/\i<=ds.length/\n=ds.length-i/\dC X g ro m mb G D (bT ft s1 (ds.drop i) r),⟨ds.length,r,G0,si.grow w0,bY.refl G0,QU _,rfl,dC.gle q w0.ge⟩,?_⟩
 rintro i n σ1 H1 ⟨r1,G1,si1,le1,hi,rfl,q1⟩
 by_cases hlt:i<ds.length
 .have hd:ds.drop i=ds[i]::ds.drop (i+1):=RF hlt;rw[hd]at q1;unfold bT at q1;refine .inr ⟨Y.go G1 H1 i le1 si1.gok hlt,fun σ' H'=>∃r G,SI X g m r G σ' H'/\bY G0 G/\dC X g ro m mb G D (bT ft s1 (ds.drop (i+1)) r),fun σ' H' ⟨r',G',si',le',q'⟩=>⟨ds.length-(i+1),by omega,r',G',si',le',hlt,rfl,q'⟩,fun x H' y=>?_⟩;obtain⟨G',w',rv⟩:=Y.yld G1 H1 i x H' ds[i] le1 si1.gok y (g_ hlt);have le':bY G0 G':=le1.trans w'.ge;cases eft:ft ds[i] r1 with
 |none=>simp only[eft]at q1;exact q1.elim
 |some r2=>simp only[eft]at q1;refine⟨r1,G',ds[i],si1.grow w',rv,r2,eft,fun σ2 si2=>⟨r2,G',si2,?_⟩⟩;cases eb:s1 r2 with
  |nx r'=>simp only[eb]at q1;exact fun σ3 G3 H3 le3 si3=>⟨r',G3,si3,le'.trans le3,dC.gle q1 (bY.trans w'.ge le3)⟩
  |ct r'=>simp only[eb]at q1;exact fun σ3 G3 H3 le3 si3=>⟨r',G3,si3,le'.trans le3,dC.gle q1 (bY.trans w'.ge le3)⟩
  |bk r'=>simp only[eb]at q1;exact fun σ3 G3 H3 le3 si3=>q1 σ3 G3 H3 (bY.trans w'.ge le3) si3
  |rt d=>simp only[eb]at q1;exact q1
  |exc x r'=>simp only[eb]at q1;exact fun pz e s' σ3 G3 H3 le3=>q1 pz e s' σ3 G3 H3 (bY.trans w'.ge le3)
  |stuck=>simp only[eb]at q1;exact q1
 .have e:i=ds.length:=by omega
  subst e;rw[Tf]at q1;exact .inl ⟨Y.stop G1 H1 le1 si1.gok,q1 σ1 G1 H1 (bY.refl _) si1⟩
def eM(m:List Md):List Md:=m.map fun x=>if x=Md.sh then Md.sh else Md.bw
def mD(m:List Md)(r:aS)(st:L2.St)(G:GH)(H:Hp):GE:=⟨G,H,fun i=>if m[i]? = some Md.ow\/m[i]? = some Md.bw then some ((st[i]?).join,(r[i]?).join)else none⟩
theorem qj{m:List Md}{i:Nat}{x:Md}(h:m[i]? = some x):(eM m)[i]? = some (if x=Md.sh then Md.sh else Md.bw):=by unfold eM;rw[F_,h];rfl
theorem Np{m:List Md}{i:Nat}(h:(eM m)[i]? = some Md.sh):m[i]? = some Md.sh:=by cases q:m[i]? with
|none=>unfold eM at h;rw[F_,q]at h;cases h
|some x=>rw[qj q]at h;cases x <;> first|rfl|(simp at h)
theorem Eo{m:List Md}{i:Nat}(h:(eM m)[i]? = some Md.ow):False:=by cases q:m[i]? with
|none=>unfold eM at h;rw[F_,q]at h;cases h
|some x=>rw[qj q]at h;cases x <;> simp at h
theorem lockM_bw{m:List Md}{i:Nat}(h:(eM m)[i]? = some Md.bw):m[i]? = some Md.ow\/m[i]? = some Md.bw:=by cases q:m[i]? with
|none=>unfold eM at h;rw[F_,q]at h;cases h
|some x=>rw[qj q]at h;cases x with
 |sh=>simp at h
 |ow=>exact .inl rfl
 |bw=>exact .inr rfl
theorem SI.lock{r:aS}{G:GH}{st:L2.St}{H:Hp}(s:SI X g m r G st H):SI X (mD m r st G H) (eM m) r G st H where
 gok:=s.gok
 old:=fun _ _ e=>e
 ge:=fun _ _ e=>e
 gf:=fun _ _=>rfl
 lm:=by unfold eM;rw[p_];exact s.lm
 lr:=s.lr
 sh:=fun i d h hm=>s.sh i d h (Np hm)
 ow:=fun i d h hm=>(Eo hm).elim
 bw:=fun i d h hm=>by
  rcases lockM_bw hm with z|z
  .obtain⟨a,h1,h2,_⟩:=s.ow i d h z;exact⟨_,h1,.inr ⟨a,rfl,h2,h2.ob.isS⟩⟩
  .obtain⟨v,h1,h2⟩:=s.bw i d h z;refine⟨v,h1,?_⟩;rcases h2 with h2|⟨a,e,h2,_⟩
   .exact .inl h2
   .exact .inr ⟨a,e,h2,h2.ob.isS⟩
 dis:=fun i j a d e _ _ _ hm=>(Eo hm).elim
 lk:=fun i o h hm=>by
  have h':(if m[i]? = some Md.ow\/m[i]? = some Md.bw then some ((st[i]?).join,(r[i]?).join)else none)=some o:=h;rw[if_pos (lockM_bw hm)]at h';cases h';have hi:i<st.length:=by have:=(c_.mp hm).1;unfold eM at this;rw[p_,s.lm]at this;exact this
  refine⟨?_,fun d hd=>by rw[hd];rfl⟩;rw[g_ hi];rfl
theorem SI.unlock{r r':aS}{G G':GH}{st st':L2.St}{H H':Hp}(s:SI X g m r G st H)(s':SI X (mD m r st G H) (eM m) r' G' st' H'):SI X g m r' G' st' H':=by
 have w:Grow X.K G H G' H':=s'.grown;have hlk:∀(i:Nat),(m[i]? = some Md.ow\/m[i]? = some Md.bw)->st'[i]? = some (st[i]?).join/\∀d,r'[i]? = some (some d)->r[i]? = some (some d):=fun i hi=>by
  have hm:(eM m)[i]? = some Md.bw:=by rcases hi with z|z <;> rw[qj z] <;> simp
  obtain⟨h1,h2⟩:=s'.lk i ((st[i]?).join,(r[i]?).join) (if_pos hi) hm;refine⟨h1,fun d hd=>?_⟩;have:=h2 d hd;cases q:r[i]? with
 |none=>rw[q]at this;cases this
 |some o=>rw[q]at this;rw[show o=some d from this]
 have hst:∀(i:Nat) v,(m[i]? = some Md.ow\/m[i]? = some Md.bw)->st[i]? = some (some v)->st'[i]? = some (some v):=fun i v hi h=>by rw[(hlk i hi).1,h];rfl
 refine⟨s'.gok,fun a o e=>s'.old a o (s.old a o e),fun a d e=>s'.ge a d (s.ge a d e),fun a h=>?_,?_,s'.lr,fun i d h hm=>?_,fun i d h hm=>?_,fun i d h hm=>?_,fun i j a d e hij h1 h2 m1 m2 q1 q2=>?_,fun i o hi hm=>?_⟩
 .have h1:H a≠none:=by cases e:g.h0 a with
  |none=>exact absurd e h
  |some o=>rw[s.old _ _ e];simp
  rw[w.gf a h1,s.gf a h]
 .have:=s'.lm;unfold eM at this;rw[p_]at this;exact this
 .exact s'.sh i d h (by rw[qj hm];simp)
 .obtain⟨a,h1,h2,h3⟩:=s.ow i d ((hlk i (.inl hm)).2 d h) hm;exact⟨a,hst i _ (.inl hm) h1,h2.mono w,h3⟩
 .obtain⟨v,h1,h2⟩:=s.bw i d ((hlk i (.inr hm)).2 d h) hm;exact⟨v,hst i _ (.inr hm) h1,h2.grow w⟩
 .have e1:=(hlk i (.inl m1)).2 d h1;have e2:=(hlk j (.inl m2)).2 e h2;obtain⟨b,z1,_,_⟩:=s.ow i d e1 m1;obtain⟨c,z2,_,_⟩:=s.ow j e e2 m2;have y1:=hst i _ (.inl m1) z1;have y2:=hst j _ (.inl m2) z2;rw[q1]at y1;rw[q2]at y2;cases y1;cases y2;exact s.dis i j a d e hij e1 e2 m1 m2 z1 z2
 .obtain⟨h1,h2⟩:=s.lk i o hi hm;refine⟨?_,fun d hd=>h2 d ((hlk i (.inr hm)).2 d hd)⟩;rw[(hlk i (.inr hm)).1,h1];rfl
theorem SI.unlockX{r r':aS}{G G':GH}{st st':L2.St}{H H':Hp}(s:SI X g m r G st H)(s':SI X (mD m r st G H) (eh (eM m)) r' G' st' H'):SI X g (eh m) r' G' st' H':=by
 have w:Grow X.K G H G' H':=s'.grown;have el:eh (eM m)=eh m:=tu (by unfold eM;rw[p_]);rw[el]at s';have no:∀{i:Nat}{x:Md},(eh m)[i]? = some x->x=Md.sh:=fun{i x} h=>by unfold eh at h;rw[F_]at h;cases q:m[i]? with
 |none=>rw[q]at h;cases h
 |some y=>rw[q]at h;cases h;rfl
 refine⟨s'.gok,fun a o e=>s'.old a o (s.old a o e),fun a d e=>s'.ge a d (s.ge a d e),fun a h=>?_,s'.lm,s'.lr,s'.sh,fun i d h hm=>(nomatch (no hm)),fun i d h hm=>(nomatch (no hm)),fun i j a d e hij h1 h2 m1 m2=>(nomatch (no m1)),fun i o hi hm=>(nomatch (no hm))⟩;have h1:H a≠none:=by cases e:g.h0 a with
 |none=>exact absurd e h
 |some o=>rw[s.old _ _ e];simp
 rw[w.gf a h1,s.gf a h]
theorem Ki(hp:UW (D_ X.prog X.w) X.A X.env X.xe)(hc:X.calm=true){ft:FT}{fi:FI}(hi:jV X g m tg iter fi)(hg:∀g',SG X g' (eM m) tg ft (eM m))(hb:∀g',fP X g' ro (eM m) (eM m) sts s1 (eM m))(hs:∀x,Rv iter X.env x=pure x:=by intro _;rfl):SS X g ro mb m (.For tg iter sts [] pos) (g6 m fi ft s1) m:=by
 have hgA:PG X tg (fun v σ H Q=>∃g',tG X g' (eM m) (eM m) ft v σ H Q):=fun pz s σ H v u Q I r ⟨g',q⟩=>(hg g').2 pz s σ H v u Q I r q;have hbA:eY X sts (fun D σ H=>∃g',tS X g' ro (eM m) (eM m) (eM m) s1 D σ H):=fun pz s σ H D I ⟨g',q⟩=>(hb g').2 pz s σ H D I q;refine⟨rfl,PS.imp (wX hp hc hi hgA hbA hs) fun D σ H ⟨r,G,si,q⟩=>⟨r,G,si,cY (ip si rfl q) fun ds q J G0 H0 w0 Y=>?_⟩⟩;have si0:=si.grow w0;refine⟨fun i n σ1 H1=>∃r1 G1,SI X (mD m r σ G0 H0) (eM m) r1 G1 σ1 H1/\i<=ds.length/\n=ds.length-i/\dC X g ro m mb G1 D (bT ft s1 (ds.drop i) r1),⟨ds.length,r,G0,si0.lock,QU _,rfl,dC.gle q w0.ge⟩,?_⟩
 rintro i n σ1 H1 ⟨r1,G1,si1,hi,rfl,q1⟩
 have wg:Grow X.K G0 H0 G1 H1:=si1.grown;by_cases hlt:i<ds.length
 .have hd:ds.drop i=ds[i]::ds.drop (i+1):=RF hlt;rw[hd]at q1;unfold bT at q1;refine .inr ⟨Y.go G1 H1 i wg hlt,fun σ' H'=>∃r' G',SI X (mD m r σ G0 H0) (eM m) r' G' σ' H'/\dC X g ro m mb G' D (bT ft s1 (ds.drop (i+1)) r'),fun σ' H' ⟨r',G',si',q'⟩=>⟨ds.length-(i+1),by omega,r',G',si',hlt,rfl,q'⟩,fun x H' y=>?_⟩;obtain⟨G',w',rv⟩:=Y.yld G1 H1 i x H' ds[i] wg y (g_ hlt);cases eft:ft ds[i] r1 with
 |none=>simp only[eft]at q1;exact q1.elim
 |some r2=>simp only[eft]at q1;refine⟨mD m r σ G0 H0,r1,G',ds[i],si1.grow w',rv,r2,eft,fun σ2 si2=>⟨mD m r σ G0 H0,r2,G',si2,?_⟩⟩;cases eb:s1 r2 with
  |nx r'=>simp only[eb]at q1;exact fun σ3 G3 H3 le3 si3=>⟨r',G3,si3,dC.gle q1 (bY.trans w'.ge le3)⟩
  |ct r'=>simp only[eb]at q1;exact fun σ3 G3 H3 le3 si3=>⟨r',G3,si3,dC.gle q1 (bY.trans w'.ge le3)⟩
  |bk r'=>simp only[eb]at q1;exact fun σ3 G3 H3 le3 si3=>q1 σ3 G3 H3 (bY.trans w'.ge le3) (si0.unlock si3)
  |rt d=>simp only[eb]at q1;intro v G2 H2 wr rv2;refine q1 v G2 H2 (si0.grown.trans wr) ?_;cases ro with
   |false=>exact rv2
   |true=>
     rcases rv2 with⟨a,e1,e2,e3⟩|z
     .exact .inl ⟨a,e1,si0.grown.back e2,e3⟩
     .exact .inr z
  |exc x r'=>simp only[eb]at q1;exact fun pz e s' σ3 G3 H3 le3 si3=>q1 pz e s' σ3 G3 H3 (bY.trans w'.ge le3) (si0.unlockX si3)
  |stuck=>simp only[eb]at q1;exact q1
 .have e:i=ds.length:=by omega
  subst e;rw[Tf]at q1;exact .inl ⟨Y.stop G1 H1 wg,q1 σ1 G1 H1 (bY.refl _) (si0.unlock si1)⟩
def hV(m:List Md)(p:FQ)(body:FS):Nat->FS
|0,_=>.stuck
|n+1,r=>onE m r (p r) fun c=>if c=true then(match body r with
  |.nx r'=>hV m p body n r'
  |.ct r'=>hV m p body n r'
  |.bk r'=>.nx r'
  |o=>o)else .nx r
theorem xQ(n:Nat)(hp:UW (D_ X.prog X.w) X.A X.env X.xe)(hc:SQ X g m c p)(hb:fP X g ro m m sts s1 m):SS X g ro mb m (.While c sts [] pos) (hV m p s1 n) m:=by
 refine⟨rfl,PS.imp (Nk hp hc hb.2) fun D σ H ⟨r,G,si,q⟩=>?_⟩;refine⟨fun n σ H=>∃r G,SI X g m r G σ H/\dC X g ro m mb G D (hV m p s1 n r),⟨n,r,G,si,q⟩,?_⟩
 rintro n σ1 H1 ⟨r1,G1,si1,q1⟩
 cases n with
|zero=>exact q1.elim
|succ n=>unfold hV at q1;refine⟨r1,G1,si1,cY (ip si1 rfl q1) fun c q2 G2 H2 w2=>?_⟩;cases c with
 |false=>rw[if_neg i_]at q2 ⊢;exact q2 σ1 G2 H2 w2.ge (si1.grow w2)
 |true=>rw[if_pos rfl]at q2 ⊢;refine⟨fun σ' H'=>∃r G,SI X g m r G σ' H'/\dC X g ro m mb G D (hV m p s1 n r),fun σ' H' h=>⟨n,T0 _,h⟩,r1,G2,si1.grow w2,?_⟩;cases eb:s1 r1 with
  |nx r'=>simp only[eb]at q2;exact fun σ3 G3 H3 le3 si3=>⟨r',G3,si3,dC.gle q2 (bY.trans w2.ge le3)⟩
  |ct r'=>simp only[eb]at q2;exact fun σ3 G3 H3 le3 si3=>⟨r',G3,si3,dC.gle q2 (bY.trans w2.ge le3)⟩
  |bk r'=>simp only[eb]at q2;exact fun σ3 G3 H3 le3 si3=>q2 σ3 G3 H3 (bY.trans w2.ge le3) si3
  |rt d=>simp only[eb]at q2;exact q2
  |exc x r'=>simp only[eb]at q2;exact fun pz e s' σ3 G3 H3 le3=>q2 pz e s' σ3 G3 H3 (bY.trans w2.ge le3)
  |stuck=>simp only[eb]at q2;exact q2
end
def pD:Res D->Res D
|.ok d=>.ok d
|_=>.stuck
@[simp] theorem noX_ok(d:D):pD (.ok d)=.ok d:=rfl
inductive ArgsOk(K:W.Frag)(G:GH)(H:Hp):List Md->List V->List D->Prop where
 |nil:ArgsOk K G H [] [] []
 |sh {v:V} {d:D} {ms:List Md} {vs:List V} {ds:List D}:RG K G v d->ArgsOk K G H ms vs ds->ArgsOk K G H (.sh::ms) (v::vs) (d::ds)
 |bw {v:V} {d:D} {ms:List Md} {vs:List V} {ds:List D}:RB K G H v d->ArgsOk K G H ms vs ds->ArgsOk K G H (.bw::ms) (v::vs) (d::ds)
section
variable{K:W.Frag}{G G':GH}{H H':Hp}
theorem ArgsOk.mono:∀{ms:List Md}{vs:List V}{ds:List D},ArgsOk K G H ms vs ds->Grow K G H G' H'->ArgsOk K G' H' ms vs ds
|_,_,_,.nil,_=>.nil
|_,_,_,.sh h t,w=>.sh (h.mono w.ge) (t.mono w)
|_,_,_,.bw h t,w=>.bw (h.mono w) (t.mono w)
theorem ArgsOk.len{ms:List Md}{vs:List V}{ds:List D}(h:ArgsOk K G H ms vs ds):vs.length=ms.length/\ds.length=ms.length:=by induction h with
|nil=>exact⟨rfl,rfl⟩
|sh h t ih=>exact⟨congrArg (· + 1) ih.1,congrArg (· + 1) ih.2⟩
|bw h t ih=>exact⟨congrArg (· + 1) ih.1,congrArg (· + 1) ih.2⟩
theorem ArgsOk.app{dvs:List V}{dds:List D}(hs:Paired Scl dvs dds):∀{ms:List Md}{vs:List V}{ds:List D},ArgsOk K G H ms vs ds->ArgsOk K G H (ms++y_ dds.length .sh) (vs++dvs) (ds++dds)
|_,_,_,.nil=>by induction hs with
 |nil=>exact .nil
 |cons h t ih=>exact .sh (.scl h) ih
|_,_,_,.sh h t=>.sh h (t.app hs)
|_,_,_,.bw h t=>.bw h (t.app hs)
theorem ArgsOk.get:∀{ms:List Md}{vs:List V}{ds:List D}{i:Nat}{d:D},ArgsOk K G H ms vs ds->ds[i]? = some d->∃v,vs[i]? = some v/\((ms[i]? = some .sh/\RG K G v d)\/(ms[i]? = some .bw/\RB K G H v d))
|_,_,_,_,_,.nil,e=>by simp at e
|_,_,_,0,_,.sh h t,e=>by simp at e;subst e;exact⟨_,rfl,.inl ⟨rfl,h⟩⟩
|_,_,_,0,_,.bw h t,e=>by simp at e;subst e;exact⟨_,rfl,.inr ⟨rfl,h⟩⟩
|_,_,_,i+1,d,.sh h t,e=>by obtain⟨v,h1,h2⟩:=t.get (i:=i) (d:=d) (by simpa using e);exact⟨v,by simpa using h1,by simpa using h2⟩
|_,_,_,i+1,d,.bw h t,e=>by obtain⟨v,h1,h2⟩:=t.get (i:=i) (d:=d) (by simpa using e);exact⟨v,by simpa using h1,by simpa using h2⟩
end
def kr(K:W.Frag)(ro:Bool)(ms:List Md)(F:List D->Res D):Sp:=fun vs H Q _=>∃G ds,bZ K G H/\ArgsOk K G H ms vs ds/\fin (F ds) (fun d=>∀v G' H',Grow K G H G' H'->RV ro K H G' H' v d->Q v H') fun _=>False
def bP(ro:Bool):Out->Res D
|.nx _=>if ro=true then .stuck else .ok .non
|.rt d=>.ok d
|.exc x _=>.exc x
|_=>.stuck
def cO(n:Nat)(ds:List D):aS:=ds.map some++y_ (n-ds.length) none
def i4(n:Nat)(ms:List Md):List Md:=ms++y_ (n-ms.length) .sh
section
variable{P:A_}{w:M_}{K:W.Frag}{mg:Str->Option a_}{base:Heap}
theorem qd{X:Cx}{N:List Str}{ms:List Md}{vs:List V}{ds:List D}{G:GH}{H:Hp}(gk:bZ X.K G H)(rs:ArgsOk X.K G H ms vs ds)(hn:ms.length<=N.length):SI X ⟨G,H,fun _=>none⟩ (i4 N.length ms) (cO N.length ds) G (L2.cR N vs) H:=by
 obtain⟨l1,l2⟩:=rs.len;have e1:(L2.cR N vs).length=N.length:=by unfold L2.cR;rw[L_,p_,RH];omega
 have e2:(cO N.length ds).length=N.length:=by unfold cO;rw[L_,p_,RH];omega
 have e3:(i4 N.length ms).length=N.length:=by unfold i4;rw[L_,RH];omega
 have at_:∀(i:Nat) d,(cO N.length ds)[i]? = some (some d)->i<ms.length/\(i4 N.length ms)[i]? = ms[i]?/\∃v,(L2.cR N vs)[i]? = some (some v)/\((ms[i]? = some .sh/\RG X.K G v d)\/(ms[i]? = some .bw/\RB X.K G H v d)):=fun i d h=>by
  unfold cO at h;by_cases hi:i<ds.length
  .rw[I_ (by simpa using hi),F_]at h;have hd:ds[i]? = some d:=by cases z:ds[i]? with
   |none=>rw[z]at h;cases h
   |some d'=>rw[z]at h;cases h;rfl
   obtain⟨v,hv,rv⟩:=rs.get hd;refine⟨by omega,?_,v,?_,rv⟩
   .unfold i4;rw[I_ (by omega)]
   .unfold L2.cR;rw[I_ (by rw[p_];omega),F_,hv];rfl
  .rw[Q6 (by simpa using hi),Re]at h;split at h <;> cases h
 refine⟨gk,fun _ _ e=>e,fun _ _ e=>e,fun _ _=>rfl,by rw[e3,e1],by rw[e1,e2],fun i d h hm=>?_,fun i d h hm=>?_,fun i d h hm=>?_,fun i j a d e _ h _ hm=>?_,fun i o h=>nomatch h⟩
 .obtain⟨_,hq,v,h1,h2⟩:=at_ i d h;rw[hq]at hm;rcases h2 with⟨_,h2⟩|⟨h3,h2⟩
  .exact⟨v,h1,h2⟩
  .rw[hm]at h3;cases h3
 .obtain⟨_,hq,v,h1,h2⟩:=at_ i d h;rw[hq]at hm;rcases h2 with⟨h3,h2⟩|⟨h3,h2⟩ <;> rw[hm]at h3 <;> cases h3
 .obtain⟨_,hq,v,h1,h2⟩:=at_ i d h;rw[hq]at hm;rcases h2 with⟨h3,h2⟩|⟨h3,h2⟩
  .rw[hm]at h3;cases h3
  .refine⟨v,h1,?_⟩;rcases h2 with h2|⟨a,rfl,h2⟩
   .exact .inl h2
   .exact .inr ⟨a,rfl,h2,h2.ob.isS⟩
 .obtain⟨_,hq,v,h1,h2⟩:=at_ i d h;rw[hq]at hm;rcases h2 with⟨h3,h2⟩|⟨h3,h2⟩ <;> rw[hm]at h3 <;> cases h3
theorem yE{X:Cx}{ro:Bool}{fs:FS}{m':List Md}{G:GH}{H:Hp}{r:aS}{Q:VK}(q:fin (bP ro (fs r)) (fun d=>∀v G' H',Grow X.K G H G' H'->RV ro X.K H G' H' v d->Q v H') fun _=>False):dC X ⟨G,H,fun _=>none⟩ ro m' [] G { nx:=fun _ H'=>Q .non H',rt:=Q } (fs r):=by cases e:fs r with
|nx r'=>rw[e]at q;cases ro with
 |false=>exact fun σ' G' H' _ si=>q .non G' H' si.grown (.scl .non)
 |true=>exact q.elim
|rt d=>rw[e]at q;exact fun v G' H' wg rv=>q v G' H' wg rv
|bk r'=>rw[e]at q;exact q.elim
|ct r'=>rw[e]at q;exact q.elim
|exc x r'=>rw[e]at q;exact q.elim
|stuck=>rw[e]at q;exact q
theorem Cz{x qual:Str}{st:Stmt}{f:Addr}{fd:Q7}{N ps:List Str}{k:Nat}{ro:Bool}{ms:List Md}{fs:FS}{m':List Md}(F:Fun K x qual st f fd)(S:FnScope N ps (aM st))(hms:ms.length=ps.length)(hbody:∀(cdv:a_)(A:K_)(outer:List Env)(s:d_)(H:Hp)(g:GE)(E:XK),Room k (A.deeper (Sj qual (aM st) s.heap.objs.size f cdv)) ->fP (cX dN P w K mg base N qual (aM st) f cdv A outer s H E).nox g ro [] (i4 N.length ms) (aW st) fs m'):FnOk P w K mg base dN (k+1) f fd ps (kr K ro ms fun ds=>bP ro (fs (cO N.length ds))):=by
 refine F.ok S (fun vs H Q E ⟨G,ds,gk,rs,q⟩=>rs.len.1.trans hms) fun cdv A outer s H vs Q E hr h=>?_;obtain⟨G,ds,gk,rs,q⟩:=h;have hpl:ps.length<=N.length:=by have:=congrArg Tw S.pre;rw[QM]at this;omega
 exact⟨_,(hbody cdv A outer s H ⟨G,H,fun _=>none⟩ E hr).2,cO N.length ds,G,qd gk rs (by omega),yE q⟩
end
section
variable{X:Cx}{g:GE}{m:List Md}{e:Expr}{f:FE}{es:List Expr}{fl:aS->Res (List D)}{k:Nat}{fa:Addr}{fd:Q7}{ps:List Str}{F:List D->Res D}{dvs:List V}{ds:List a_}{dds:List D}{x:Str}{p pos:Pos}{ms:List Md}
def Qr(X:Cx)(g:GE)(m:List Md)(ms:List Md)(f:aS->Res (List D)):TA:=fun σ H Q=>∃r G,SI X g m r G σ H/\fin (f r) (fun ds=>∀vs G' H',Grow X.K G H G' H'->ArgsOk X.K G' H' ms vs ds->Q vs H') (XW X σ G H)
def jX(X:Cx)(g:GE)(m:List Md)(es:List Expr)(ms:List Md)(f:aS->Res (List D)):Prop:=PA X es (Qr X g m ms f)
theorem cw:jX X g m [] [] aN:=PA.imp kh fun σ H Q ⟨r,G,si,k⟩=>k [] G H (Grow.refl si.gok) .nil
theorem eR(ha:SE X g m e f)(hr:jX X g m es ms fl)(hs:h_ (e::es) X.env=(false,eval e X.env)::h_ es X.env:=by rfl):jX X g m (e::es) (.sh::ms) (aP f fl):=by
 refine PA.imp (iD ha hr hs) fun σ H Q ⟨r,G,si,k⟩=>⟨r,G,si,cY (c6 k) fun d k1 v G1 H1 w1 r1=>⟨r,G1,si.grow w1,?_⟩⟩
 exact iE (c6 k1) w1 fun ds z vs G2 H2 w2 r2=>z (v::vs) G2 H2 (w1.trans w2) (.sh (r1.mono w2.ge) r2)
theorem aQ(ha:SB X g m e f)(hr:jX X g m es ms fl)(hs:h_ (e::es) X.env=(false,eval e X.env)::h_ es X.env:=by rfl):jX X g m (e::es) (.bw::ms) (aP f fl):=by
 refine PA.imp (iD ha hr hs) fun σ H Q ⟨r,G,si,k⟩=>⟨r,G,si,cY (c6 k) fun d k1 v G1 H1 w1 r1=>⟨r,G1,si.grow w1,?_⟩⟩
 exact iE (c6 k1) w1 fun ds z vs G2 H2 w2 r2=>z (v::vs) G2 H2 (w1.trans w2) (.bw (r1.mono w2) r2)
def bX(fl:aS->Res (List D))(dds:List D)(F:List D->Res D):FE:=fun r=>(fl r).bind fun ds=>pD (F (ds++dds))
theorem EQ{ro:Bool}{vs:List V}{zs:List D}{G:GH}{H:Hp}{Q:VK}(gk:bZ X.K G H)(rs:ArgsOk X.K G H ms vs zs)(hsc:Paired Scl dvs dds)(q:fin (pD (F (zs++dds))) (fun d=>∀v G' H',Grow X.K G H G' H'->RV ro X.K H G' H' v d->Q v H') fun _=>False):kr X.K ro (ms++y_ dds.length .sh) F (vs++dvs) H Q E0:=by refine⟨G,zs++dds,gk,rs.app hsc,?_⟩;cases e:F (zs++dds)with
|ok d=>rw[e]at q;exact q
|exc x=>rw[e]at q;exact q.elim
|stuck=>rw[e]at q;exact q.elim
theorem EV{α:Type}{r:Res α}{q:α->Prop}{x:D->Prop}(h:fin r q x)(hr:∀e,r≠.exc e):fin r q fun _=>False:=by cases r with
|ok a=>exact h
|exc e=>exact absurd rfl (hr e)
|stuck=>exact h
theorem CI(r:Res D)(e:D):pD r≠.exc e:=by cases r <;> simp[pD]
theorem Ja(G1:FnOk X.prog X.w X.K X.mg X.base dN k fa fd ps (kr X.K false (ms++y_ dds.length .sh) F))(hr:Room k X.A)(hg:Gl X x)(hm:X.mg x=some (.ref fa))(hk:W.keepIn X.K (.ref fa)=true)(hb:ik X.K fd ps ds)(hd:aU dvs ds)(hsc:Paired Scl dvs dds)(ha:jX X g m (e::es) ms fl)(hdb:(x==("__debug__" : Str))=false:=by decide)(he:h_ (e::es) X.env=(false,eval e X.env)::h_ es X.env:=by rfl)(hpl:(backTo pos (h_ es X.env)).any (·.1)=false:=by rfl):SE X g m (.Call (.Name x p) (e::es) [] pos) (bX fl dds F):=by
 refine PE.imp (Kq G1 hr hg hm hk hb hd Cb ha hdb he hpl) fun σ H Q ⟨r,G,si,q⟩=>⟨r,G,si,?_⟩
 cases ez:fl r with
|ok zs=>unfold bX at q;rw[ez]at q;intro vs G' H' w' rs;exact EQ w'.ok rs hsc (cY (EV q (CI _)) fun d k v G2 H2 w2 rv=>k v G2 H2 (w'.trans w2) rv)
|exc x=>unfold bX at q;rw[ez]at q;exact q
|stuck=>unfold bX at q;rw[ez]at q;exact q
end
theorem L5{env:Env}:∀(l:List (Str×Tb))(cs:List (Str×Addr)),(∀x∈l,x.2=.free->∃c,env.cells.lookup x.1=some c)->(∀x c,cs.lookup x=some c->env.cells.lookup x=some c) ->∃cl,(forIn l cs (fun(x:Str×Tb)(cs:List (Str×Addr))=>if (x.2==NameKind.free)=true then(do let a <-Yd env x.1;pure (ForInStep.yield ((x.1,a)::cs)))else pure (ForInStep.yield cs)):Sem (List (Str×Addr)))=pure cl /\(∀x c,cl.lookup x=some c->env.cells.lookup x=some c)/\(∀x,(x,NameKind.free)∈l->∃c,cl.lookup x=some c)/\(∀x c,cs.lookup x=some c->∃c',cl.lookup x=some c'):=by
 intro l
 induction l with
|nil=>intro cs _ h;exact⟨cs,rfl,h,fun x hx=>(by cases hx),fun x c h=>⟨c,h⟩⟩
|cons y l ih=>
  intro cs hf hc;obtain⟨n,k⟩:=y;by_cases hk:k=.free
  .subst hk;obtain⟨c,ec⟩:=hf (n,.free) k_ rfl;have e1:Yd env n=pure c:=by unfold Yd;rw[ec]
   have hc':∀x c',((n,c)::cs).lookup x=some c'->env.cells.lookup x=some c':=fun x c' h=>by rw[Sw]at h;cases q:x==n with
   |true=>rw[q]at h;cases h;rw[RK q];exact ec
   |false=>rw[q]at h;exact hc x c' h
   obtain⟨cl,e2,h1,h2,h3⟩:=ih ((n,c)::cs) (fun x hx=>hf x (m_ _ hx)) hc';refine⟨cl,?_,h1,fun x hx=>?_,fun x c' h=>?_⟩
   .rw[<-e2];rw[Ts];show(Yd env n >>= fun a=>pure (ForInStep.yield ((n,a)::cs))) >>= _=_;rw[e1];rfl
   .rcases w_.mp hx with z|z
    .cases z;exact h3 n c (by rw[Sw];simp)
    .exact h2 x z
   .cases q:x==n with
   |true=>exact h3 x c (by rw[Sw,q])
   |false=>exact h3 x c' (by rw[Sw,q];exact h)
  .obtain⟨cl,e2,h1,h2,h3⟩:=ih cs (fun x hx=>hf x (m_ _ hx)) hc;have hb:(k==NameKind.free)=false:=by simpa using hk
   refine⟨cl,?_,h1,fun x hx=>?_,h3⟩
   .rw[<-e2,Ts];simp only[hb,VZ,if_false];rfl
   .rcases w_.mp hx with z|z
    .cases z;exact absurd rfl hk
    .exact h2 x z
theorem OT{scope:Sz}{env:Env}(hf:∀x∈scope.names,x.2=.free->∃c,env.cells.lookup x.1=some c):∃cl,Xi scope env=pure cl/\(∀x c,cl.lookup x=some c->env.cells.lookup x=some c)/\(∀x,(x,NameKind.free)∈scope.names->∃c,cl.lookup x=some c):=by obtain⟨cl,e,h1,h2,_⟩:=L5 scope.names [] hf (fun x c h=>by cases h);refine⟨cl,?_,h1,h2⟩;have e0:Xi scope env=((forIn scope.names ([]:List (Str×Addr)) (fun(x:Str×Tb)(cs:List (Str×Addr))=>if (x.2==NameKind.free)=true then(do let a <-Yd env x.1;pure (ForInStep.yield ((x.1,a)::cs)))else pure (ForInStep.yield cs)):Sem (List (Str×Addr))) >>= fun cs=>pure cs):=rfl;rw[e0,e];rfl
theorem Gg{f:Str->Tb->Tb}:∀(l:List (Str×Tb))(x:Str),(l.map fun y=>(y.1,f y.1 y.2)).lookup x=(l.lookup x).map (f x)
|[],x=>rfl
|(n,k)::l,x=>by rw[QE,Sw,Sw];cases q:x==n with
 |true=>simp[RK q]
 |false=>exact Gg l x
def gx(env:Env)(n:Str)(k:Tb):Tb:=if (k==.free&&env.scope.kind==.function&&env.kindOf n==some .cell)=true then .cell else k
theorem Gh(scope:Sz)(env:Env)(x:Str):(We scope env).names.lookup x=(scope.names.lookup x).map (gx env x):=by
 rw[<-Gg];unfold We;congr 1;apply RD;intro y _;obtain⟨n,k⟩:=y;show(if (k==NameKind.free&&env.scope.kind==.function&&env.kindOf n==some .cell)=true then(n,NameKind.cell)else(n,k))=(n,gx env n k)
 unfold gx;split <;> rfl
structure CompSc(X:Cx)(scope:Sz)(N':List Str)(nl:Nat)(cap:List Nat):Prop where
 kind:scope.kind=.function
 nocell:∀y∈scope.names,y.2≠.cell
 names:∀y∈scope.names,y.2=.local->scope.names.lookup y.1=some .local
 freeK:∀y∈scope.names,y.2=.free->X.env.kindOf y.1=some .cell\/X.env.kindOf y.1=some .free
 len:N'.length=nl+cap.length
 capN:∀j,j<cap.length->∃x,N'[nl+j]? = some x/\X.N[cap.getD j 0]? = some x/\scope.names.lookup x=some .free
def ii(X:Cx)(s₀:d_)(H₀:Hp)(N':List Str)(scope:Sz)(cl:List (Str×Addr))(C:Addr)(fp:List Addr):Cx where
 prog:=X.prog
 w:=X.w
 K:=X.K
 mg:=X.mg
 base:=X.base
 A:=X.A
 N:=N'
 s₀:=s₀
 H₀:=H₀
 env:=Vv scope cl C X.env
 outer:=X.stack
 stack:=X.stack
 ex:=fp
 fn:=fun _=>false
 calm:=X.calm
 pn:=[]
 xe:=fun _ _=>False
section
variable{X:Cx}{pz:List (Addr×Obj)}{σ:L2.St}{H:Hp}{s:d_}{scope:Sz}{N':List Str}{nl:Nat}{cap:List Nat}{cl:List (Str×Addr)}{C:Addr}{fp:List Addr}
theorem Il(I:Inv X pz σ H s)(sc:CompSc X scope N' nl cap)(h1:∀x c,cl.lookup x=some c->X.env.cells.lookup x=some c)(h2:∀x,(x,NameKind.free)∈scope.names->∃c,cl.lookup x=some c)(hf:∀b∈fp,eV X pz H b/\b<s.heap.objs.size)(hC:s.heap.objs.size<=C):(ii X s H N' scope cl C fp).Ok where
 mod:=I.ok.mod
 kind:=sc.kind
 glob:=I.ok.glob
 blt:=I.ok.blt
 above:=hC
 inj:=fun x y c a b=>I.ok.inj x y c (h1 x c a) (h1 y c b)
 has:=fun x hk=>by
  have hk':(scope.names.lookup x).map (gx X.env x)=some .cell\/(scope.names.lookup x).map (gx X.env x)=some .free:=by rw[<-Gh];exact hk
  cases e:scope.names.lookup x with
 |none=>rw[e]at hk';rcases hk' with z|z <;> cases z
 |some k=>
   have hm:=QR e;have kf:k=.free:=by
    rw[e]at hk';have hk2:gx X.env x k=.cell\/gx X.env x k=.free:=by
     rcases hk' with z|z
     .exact .inl (z_ z)
     .exact .inr (z_ z)
    unfold gx at hk2;split at hk2
    .rename_i hc;simp only[J_,beq_iff_eq]at hc;exact hc.1.1
    .rcases hk2 with z|z
     .exact absurd z (sc.nocell _ hm)
     .exact z
   subst kf;exact h2 x hm
 cab:=fun x c h=>by cases h
 hd:=I.ok.hd
 frames:=I.ok.frames
 stk:=.inl rfl
 exf:=fun b hb=>⟨O_ (G_ (hf b hb).2 hC),fun x c e=>(hf b hb).1.2.2.2.2.1 x c (h1 x c e)⟩
 bs:=I.bs
 bsz:=QI I.ok.bsz I.sz
 noex:=fun b o e hb=>by
  obtain⟨_,_,_,hx,_⟩:=(hf b hb).1;rcases hx with z|z
  .exact I.ok.noex b o e z
  .exact absurd (G_ (s_ e) (QI I.ok.bsz z)) (Ri _)
 exfs:=fun b hb hfs=>by
  obtain⟨_,q1,q2,_⟩:=(hf b hb).1;rcases w_.mp (I.stkSub b hfs)with z|z
  .exact q1 z
  .exact q2 z
 funs:=I.stack
 frf:=I.stkFree
end
def iw(ft:FT)(q:FQ)(fe:FE)(r0:aS):List D->Res (List D)
|[]=>.ok []
|d::ds=>(dM (ft d r0)).bind fun r1=>(q r1).bind fun c=>if c=true then(fe r1).bind fun v=>(iw ft q fe r0 ds).bind fun vs=>.ok (v::vs)else iw ft q fe r0 ds
def dg(nl:Nat)(cap:List Nat)(r:aS):aS:=y_ nl none++cap.map fun i=>r.getD i none
def cN(nl:Nat)(cap:List Nat)(m:List Md):List Md:=y_ nl Md.sh++cap.map fun i=>if m.getD i Md.sh=Md.sh then Md.sh else Md.bw
def fO(nl:Nat)(cap:List Nat)(st:L2.St):L2.St:=y_ nl none++cap.map fun i=>st.getD i none
theorem pX{α:Type}{nl:Nat}{cap:List Nat}{u:α}{h:Nat->α}{i:Nat}(hi:nl<=i):(y_ nl u++cap.map h)[i]? = (cap[i-nl]?).map h:=by rw[Q6 (by simpa using hi),RH,F_]
section
variable{X:Cx}{pz:List (Addr×Obj)}{σ:L2.St}{H H':Hp}{s:d_}{scope:Sz}{N':List Str}{nl:Nat}{cap:List Nat}{cl:List (Str×Addr)}{C:Addr}{fp:List Addr}{g:GE}{G G':GH}{m:List Md}{r:aS}
theorem Hn(si:SI X g m r G σ H)(w:Grow X.K G H G' H'):SI (ii X s H N' scope cl C fp) ⟨G,H,fun _=>none⟩ (cN nl cap m) (dg nl cap r) G' (fO nl cap σ) H':=by
 have lens:(cN nl cap m).length=nl+cap.length:=by simp[cN]
 have lens2:(dg nl cap r).length=nl+cap.length:=by simp[dg]
 have lens3:(fO nl cap σ).length=nl+cap.length:=by simp[fO]
 have rget:∀(i:Nat) d,(dg nl cap r)[i]? = some (some d)->nl<=i/\∃j,cap[i-nl]? = some j/\r[j]? = some (some d):=fun i d h=>by
  by_cases hi:i<nl
  .unfold dg at h;rw[I_ (by simpa using hi),Re]at h;split at h <;> cases h
  .refine⟨by omega,?_⟩;unfold dg at h;rw[pX (by omega)]at h;cases e:cap[i-nl]? with
  |none=>rw[e]at h;cases h
  |some j=>rw[e]at h;refine⟨j,rfl,?_⟩;have h':r.getD j none=some d:=z_ h;rw[E_]at h';cases e2:r[j]? with
   |none=>rw[e2]at h';cases h'
   |some o=>rw[e2]at h';rw[show o=some d from h']
 have mget:∀(i j:Nat) md,nl<=i->cap[i-nl]? = some j->(cN nl cap m)[i]? = some md->md=if m.getD j Md.sh=Md.sh then Md.sh else Md.bw:=fun i j md hi hj h=>by unfold cN at h;rw[pX hi,hj]at h;exact(z_ h).symm
 have sget:∀(i j:Nat) v,nl<=i->cap[i-nl]? = some j->σ[j]? = some (some v)->(fO nl cap σ)[i]? = some (some v):=fun i j v hi hj h=>by unfold fO;rw[pX hi,hj];show some (σ.getD j none)=_;rw[E_,h];rfl
 have mj:∀(j:Nat) d,r[j]? = some (some d)->m[j]? = some (m.getD j Md.sh):=fun j d h=>by
  have hl:j<m.length:=by have:=(c_.mp h).1;rw[si.lr,<-si.lm]at this;exact this
  rw[E_,g_ hl];rfl
 refine⟨w.ok,w.he,w.ge,w.gf,by rw[lens,lens3],by rw[lens2,lens3],fun i d h hm=>?_,fun i d h hm=>?_,fun i d h hm=>?_,fun i j a d e _ h _ hm=>?_,fun i o h=>nomatch h⟩
 .obtain⟨hi,j,hj,hr⟩:=rget i d h;have e:=mget i j _ hi hj hm;have hsh:m.getD j Md.sh=Md.sh:=by
   by_cases z:m.getD j Md.sh=Md.sh
   .exact z
   .rw[if_neg z]at e;cases e
  obtain⟨v,h1,h2⟩:=si.sh j d hr (by rw[mj j d hr,hsh]);exact⟨v,sget i j v hi hj h1,h2.mono w.ge⟩
 .obtain⟨hi,j,hj,hr⟩:=rget i d h;have e:=mget i j _ hi hj hm;split at e <;> cases e
 .obtain⟨hi,j,hj,hr⟩:=rget i d h;have e:=mget i j _ hi hj hm;have hsh:m.getD j Md.sh≠Md.sh:=by intro z;rw[if_pos z]at e;cases e
  have hmj:=mj j d hr;cases q:m.getD j Md.sh with
 |sh=>exact absurd q hsh
 |ow=>rw[q]at hmj;obtain⟨a,h1,h2,_⟩:=si.ow j d hr hmj;exact⟨_,sget i j _ hi hj h1,.inr ⟨a,rfl,h2.mono w,h2.ob.isS⟩⟩
 |bw=>
   rw[q]at hmj;obtain⟨v,h1,h2⟩:=si.bw j d hr hmj;refine⟨v,sget i j _ hi hj h1,?_⟩;rcases h2 with h2|⟨a,rfl,h2,_⟩
   .exact .inl (h2.mono w.ge)
   .exact .inr ⟨a,rfl,h2.mono w,h2.ob.isS⟩
 .obtain⟨hi,j',hj,hr⟩:=rget i d h;have e:=mget i j' _ hi hj hm;split at e <;> cases e
theorem Ii(I:Inv X pz σ H s)(ok:(ii X s H N' scope cl C fp).Ok)(sc:CompSc X scope N' nl cap)(h1:∀x c,cl.lookup x=some c->X.env.cells.lookup x=some c)(h2:∀x,(x,NameKind.free)∈scope.names->∃c,cl.lookup x=some c)(hN:X.N.Nodup){s4:d_}{H4:Hp}{mc:Str->Option a_}(hos:s4.os=s.os)(hb:TC s4.gens)(kp:∀b o,s.heap.get? b=some o->s4.heap.get? b=some o)(hns:s4.heap.Ns C mc)(hC:s.heap.objs.size<=C)(hHC:H4 C=none)(hH:∀b,H b=none->b<s.heap.objs.size->H4 b=none)(un:Un (dw X.stack) fp H H4 s.heap s4.heap)(hok:dR X.prog X.w H4 s4.heap):Inv (ii X s H N' scope cl C fp) [] (fO nl cap σ) H4 s4:=by
 refine⟨ok,hos,hb,un,⟨mc,hns,fun i x v e1 e2 e3=>?_⟩,fun x c e=>?_,hHC,fun x c e=>?_,fun p hp=>absurd (show p∈([]:List (Addr×Obj))from hp) (by simp),hok,?_⟩
 .have hi:nl<=i:=by
   by_cases z:i<nl
   .unfold fO at e2;rw[I_ (by simpa using z),Re]at e2;split at e2 <;> cases e2
   .omega
  unfold fO at e2;rw[pX hi]at e2;cases ej:cap[i-nl]? with
 |none=>rw[ej]at e2;cases e2
 |some j=>
   rw[ej]at e2;have hj:i-nl<cap.length:=(c_.mp ej).1;obtain⟨x',q1,q2,q3⟩:=sc.capN (i-nl) hj;have ed:cap.getD (i-nl) 0=j:=by rw[E_,ej];rfl
   rw[ed]at q2;have ei:nl+(i-nl)=i:=by omega
   rw[ei]at q1;have e1':N'[i]? = some x:=e1;rw[q1]at e1';have ex:x'=x:=z_ e1';subst ex;have hv:σ[j]? = some (some v):=by have z:σ.getD j none=some v:=z_ e2;rw[E_]at z;cases q:σ[j]? with
   |none=>rw[q]at z;cases z
   |some o=>rw[q]at z;rw[show o=some v from z]
   have hfree:=QR q3;have kX:=sc.freeK _ hfree rfl;obtain⟨mx,hnx,hl⟩:=I.loc;obtain⟨u,ru,lk⟩:=hl j x' v q2 hv (.inr kX);refine⟨u,ru,.inr ?_⟩;obtain⟨c,ec⟩:=h2 x' hfree;have hkk:Env.kindOf (ii X s H N' scope cl C fp).env x'=some .cell\/Env.kindOf (ii X s H N' scope cl C fp).env x'=some .free:=by
    have z:(We scope X.env).names.lookup x'=some (gx X.env x' .free):=by rw[Gh,q3];rfl
    show(We scope X.env).names.lookup x'=_\/(We scope X.env).names.lookup x'=_;rw[z];unfold gx;split
    .exact .inl rfl
    .exact .inr rfl
   refine⟨hkk,c,ec,?_⟩;rcases lk with⟨k,_⟩|⟨_,c',ec',hcell⟩
   .rcases kX with z|z <;> rw[k]at z <;> cases z
   .rw[h1 x' c ec]at ec';cases ec';obtain⟨o,ho,hd⟩:=hcell;exact⟨o,kp c o ho,hd⟩
 .obtain⟨v,o,ho,hd⟩:=I.cell x c (h1 x c e);exact⟨v,o,kp c o ho,hd⟩
 .obtain⟨v,o,ho,hd⟩:=I.cell x c (h1 x c e);exact hH c (I.freeC x c (h1 x c e)) (s_ ho)
 .show(fO nl cap σ).length=N'.length;rw[sc.len];simp[fO]
end
section
variable{prog:A_}{w:M_}{A:K_}{R:Yb->d_->Prop}{s:d_}
theorem JT{elt target iter:Expr}{ifs:List Expr}{scope:Sz}{pos:Pos}{it acc:a_}{env:Env}(I:Nat->d_->Prop)(turn:∀n s,I n s->q_ (D_ prog w) A (Wp it) (fun r s1=>match r with
  |none=>R (.ok .next) s1
  |some v=>q_ (D_ prog w) A (Ue target it v) (fun _ s1'=>q_ (D_ prog w) A (Uv target env v) (fun _ s2=>
     q_ (D_ prog w) A (forIn ifs true fun c r=>if r=true then do let ok <-isTrue c env (eval c env);pure (ForInStep.yield ok)else pure (ForInStep.yield r)) (fun ok s3=>
      if ok=true then q_ (D_ prog w) A (eval elt env) (fun x s4=>q_ (D_ prog w) A (call (.builtin "list.append") [acc,x]) (fun _ s5=>∃m,m<n/\I m s5) (Vf (D_ prog w) A env fun e s'=>R (.error e) s') s4) (Vf (D_ prog w) A env fun e s'=>R (.error e) s') s3
      else ∃m,m<n/\I m s3) (Vf (D_ prog w) A env fun e s'=>R (.error e) s') s2) (Vf (D_ prog w) A env fun e s'=>R (.error e) s') s1')
     (Vf (D_ prog w) A env fun e s'=>R (.error e) s') s1) (Vf (D_ prog w) A env fun e s'=>R (.error e) s') s)(n:Nat)(h:I n s):UK (D_ prog w) A (.compLoop (.ListComp elt [⟨target,iter,ifs,0⟩] scope pos) 0 it acc env) R s:=by refine codeAny_loop rfl I (fun n s hI=>?_) n h;show q_ _ A ((compTurn (.ListComp elt [⟨target,iter,ifs,0⟩] scope pos) 0 it acc env).onRaise (fun x=>do TZ x env;theTreesLotGoes x)) _ _ s;refine wpAny_noted ?_;rw[compTurn_list];refine b_ (Tj (b_ (QP (turn n s hI) (fun r s1 h1=>?_) fun _ _ h'=>h')));cases r with
|none=>exact j_ h1
|some v=>refine b_ (QP h1 (fun _ s1' h1'=>?_) fun _ _ h'=>h');refine b_ (QP h1' (fun _ s2 h2=>b_ (QP h2 (fun ok s3 h3=>?_) fun _ _ h'=>h')) fun _ _ h'=>h');cases ok with
 |false=>exact j_ ⟨rfl,h3⟩
 |true=>exact b_ (b_ (QP h3 (fun x s4 h4=>b_ (QP h4 (fun _ s5 h5=>j_ (j_ ⟨rfl,h5⟩)) fun _ _ h'=>h')) fun _ _ h'=>h'))
end
def nW(X:Cx)(g:GE)(m:List Md)(ifs:List Expr)(f:FQ):Prop:=∀(pz:List (Addr×Obj))(s:d_)(σ:L2.St)(H:Hp)(Q:Bool->Hp->Prop),Inv X pz σ H s->tQ X g m f σ H Q ->q_ (D_ X.prog X.w) X.A (forIn ifs true fun c r=>if r=true then do let ok <-isTrue c X.env (eval c X.env);pure (ForInStep.yield ok)else pure (ForInStep.yield r)) (TP X pz σ Q) X.xe s
section
variable{X:Cx}{g:GE}{m:List Md}{c:Expr}{p:FQ}
theorem mU:nW X g m [] fun _=>.ok true:=fun pz s σ H Q I ⟨r,G,si,q⟩=>wpAny_tests_nil ⟨H,I,q G H (Grow.refl si.gok)⟩
theorem mV(h:SQ X g m c p):nW X g m [c] p:=fun pz s σ H Q I q=>wpAny_tests_one (h pz s σ H Q I q)
end
def jm(ft:FT)(nl:Nat):Prop:=∀d r r1,ft d r=some r1->r1.length=r.length/\∀i,nl<=i->r1[i]? = r[i]?
def rV(ft:kz)(nl:Nat):Prop:=∀d r r1,ft d r=some r1->r1.length=r.length/\∀i,nl<=i->r1[i]? = r[i]?
theorem iA{i nl:Nat}(h:i<nl):jm (cU i) nl:=fun d r r1 e=>by cases e;exact⟨by simp,fun j hj=>by rw[f_ (by omega)]⟩
theorem Me{nl:Nat}:rV il nl:=fun ds r r1 e=>by cases ds with
|nil=>cases e;exact⟨rfl,fun _ _=>rfl⟩
|cons _ _=>cases e
theorem EX{ft:FT}{fts:kz}{nl:Nat}(h1:jm ft nl)(h2:rV fts nl):rV (eJ ft fts) nl:=fun ds r r1 e=>by cases ds with
|nil=>cases e
|cons d ds=>have e':((ft d r).bind fun r'=>fts ds r')=some r1:=e;cases q:ft d r with
 |none=>rw[q]at e';cases e'
 |some r2=>rw[q]at e';obtain⟨a1,a2⟩:=h1 d r r2 q;obtain⟨b1,b2⟩:=h2 ds r2 r1 e';exact⟨b1.trans a1,fun i hi=>(b2 i hi).trans (a2 i hi)⟩
theorem Ir{fts:kz}{nl:Nat}(h:rV fts nl):jm (ir fts) nl:=fun d r r1 e=>by cases d with
|tup ds=>exact h ds r r1 e
|lst ds=>exact h ds r r1 e
|_=>cases e
section
variable{X:Cx}{pz:List (Addr×Obj)}{σ:L2.St}{H2:Hp}{s2:d_}{scope:Sz}{N':List Str}{nl:Nat}{cap:List Nat}{cl:List (Str×Addr)}{fp:List Addr}{g:GE}{G2:GH}{m:List Md}{r:aS}{elt tg iter:Expr}{ifs:List Expr}{pos:Pos}{J:It}{it:Addr}{tn:Nat->Heap->Prop}{ds vs:List D}{ft:FT}{q:FQ}{fe:FE}{E:a_->d_->Prop}
theorem JR(i:Nat):(cN nl cap m)[i]?≠some Md.ow:=fun h=>by
 by_cases hi:i<nl
 .unfold cN at h;rw[I_ (by simpa using hi),Re]at h;split at h <;> cases h
 .unfold cN at h;rw[pX (by omega)]at h;cases e:cap[i-nl]? with
 |none=>rw[e]at h;cases h
 |some j=>rw[e]at h;have h':(if m.getD j Md.sh=Md.sh then Md.sh else Md.bw)=Md.ow:=z_ h;split at h' <;> cases h'
theorem NK{i:Nat}(hi:i<nl)(d:D):(dg nl cap r)[i]?≠some (some d):=fun h=>by unfold dg at h;rw[I_ (by simpa using hi),Re]at h;split at h <;> cases h
def Bg(El:W.Frag->GH->Hp->GH->Hp->V->D->Prop)(X:Cx)(g:GE)(m:List Md)(f:FE):TE:=fun σ H Q=>∃r G,SI X g m r G σ H/\fin (f r) (fun d=>∀v G' H',Grow X.K G H G' H'->El X.K G H G' H' v d->Q v H') (XW X σ G H)
theorem Fz{El:W.Frag->GH->Hp->GH->Hp->V->D->Prop}{Rl:Addr->GH->Hp->List V->List D->Prop}(R0:∀p G H,Rl p G H [] [])(Rg:∀{p G H G' H' ws ds},Rl p G H ws ds->Grow X.K G H G' H'->Rl p G' H' ws ds)(Rn:∀{p G H ws ds},Rl p G H ws ds->ws.length=ds.length)(Ra:∀{p G H G' H' ws ds v d},Rl p G H ws ds->Grow X.K G H G' H'->Grow X.K G2 H2 G H->H p=some (.lst ws)->El X.K G H G' H' v d->Rl p G' (upd H' p (.lst (ws++[v]))) (ws++[v]) (ds++[d]))(hN:X.N.Nodup)(hcalm:X.calm=true)(sc:CompSc X scope N' nl cap)(h1:∀x c,cl.lookup x=some c->X.env.cells.lookup x=some c)(h2:∀x,(x,NameKind.free)∈scope.names->∃c,cl.lookup x=some c)(I2:Inv X pz σ H2 s2)(si:SI X g m r G2 σ H2)(T:Turn X.prog X.w X.K tg J fp it tn)(st:tn 0 s2.heap)(hf:∀b∈fp,eV X pz H2 b)(Y:YieldsC X.K J ds G2 H2)(hsz:ds.length<=sizeLine)(hg:∀C,SG (ii X s2 H2 N' scope cl C fp) ⟨G2,H2,fun _=>none⟩ (cN nl cap m) tg ft (cN nl cap m))(hft:jm ft nl)(hq:∀C,nW (ii X s2 H2 N' scope cl C fp) ⟨G2,H2,fun _=>none⟩ (cN nl cap m) ifs q)(he:∀C,PE (ii X s2 H2 N' scope cl C fp) elt (Bg El (ii X s2 H2 N' scope cl C fp) ⟨G2,H2,fun _=>none⟩ (cN nl cap m) fe))(hres:iw ft q fe (dg nl cap r) ds=.ok vs){RR:a_->Addr->Yb->d_->Prop}(hRR:∀(p C:Addr)(s':d_)(H':Hp)(G':GH),Inv X pz σ H' s'->(∃mm,s'.heap.Ns C mm)->H' C=none->C≠X.env.locals->X.s₀.heap.objs.size<=C->(∀x c,X.env.cells.lookup x=some c->c≠C)->(∀z∈X.pn++pz,z.1≠C) ->Grow X.K G2 H2 G' H'->H2 p=none->(∃ws,H' p=some (.lst ws)/\G' p=none/\Rl p G' H' ws vs)->RR (.ref p) C (.ok .next) s'):q_ (D_ X.prog X.w) X.A (newList []) (fun acc s3=>q_ (D_ X.prog X.w) X.A (newFunctionEnv scope X.env.globals cl [] X.env.qual none .none (some X.env)) (fun cenv s4=>UK (D_ X.prog X.w) X.A (.compStart (.ListComp elt [⟨tg,iter,ifs,0⟩] scope pos) 0 (.ref it) acc { cenv with scope:=We scope X.env }) (RR acc cenv.locals) s4) E s3) E s2:=by
 refine Rx (wpAny_newFunctionEnv sc.nocell (by intro y hy;simp at hy) (fun h₁ hns₁ hsb₁=>?_) sc.kind)
 dsimp only at hns₁ hsb₁ ⊢
 generalize hH2:s2.heap.push { cls:=.type "list",dict:=none,data:=.seq ([]:List a_).toArray }=HH at hns₁ hsb₁ ⊢;have hC:HH.objs.size=s2.heap.objs.size+1:=by rw[<-hH2,R9]
 have hDC:s2.heap.objs.size≠HH.objs.size:=by rw[hC];exact O_ (T0 _)
 have hCle:s2.heap.objs.size<=HH.objs.size:=by rw[hC];exact Vt _
 have below:∀b,b<s2.heap.objs.size->b≠HH.objs.size/\b≠s2.heap.objs.size:=fun b hb=>⟨by rw[hC];exact O_ (UN hb),O_ hb⟩
 have old:∀b o,s2.heap.get? b=some o->h₁.get? b=some o:=fun b o e=>hsb₁.extBut b o (below b (s_ e)).1 (e_ _ (hH2▸e_ _ e));have hacc:h₁.get? s2.heap.objs.size=some { cls:=.type "list",dict:=none,data:=.seq ([]:List a_).toArray }:=hsb₁.extBut _ _ hDC (e_ _ (hH2▸x_ _ rfl));have hp2:H2 s2.heap.objs.size=none:=I2.hok.fresh (r_ _);have hflt:∀b∈fp,eV X pz H2 b/\b<s2.heap.objs.size:=fun b hb=>⟨hf b hb,by obtain⟨o,e,_⟩:=T.obj 0 s2.heap st b hb;exact s_ e⟩
 have ok:=Il (fp:=fp) I2 sc h1 h2 hflt hCle;generalize hXX:ii X s2 H2 N' scope cl HH.objs.size fp=XX at ok;have hG2p:G2 s2.heap.objs.size=none:=si.gok.isN hp2;have w0:Grow X.K G2 H2 G2 (upd H2 s2.heap.objs.size (.lst [])):=Grow.new si.gok hp2 _;have hok4:dR X.prog X.w (upd H2 s2.heap.objs.size (.lst [])) h₁:=I2.hok.laid old (r_ _) ⟨QU _,[],0,.nil,hacc⟩;have IC:Inv XX [] (fO nl cap σ) (upd H2 s2.heap.objs.size (.lst [])) { s2 with heap:=h₁,toks:=s2.toks+([]:List (Str×a_)).length }:=by
  subst hXX;refine Ii I2 ok sc h1 h2 hN rfl I2.bare old hns₁ hCle ?_ (fun b hb hlt=>?_) (Un.laid old (r_ _) hp2) hok4
  .rw[cM (Sn hDC)];exact I2.hok.fresh hCle
  .rw[cM (below b hlt).2];exact hb
 have SC:SI XX ⟨G2,H2,fun _=>none⟩ (cN nl cap m) (dg nl cap r) G2 (fO nl cap σ) (upd H2 s2.heap.objs.size (.lst [])):=by subst hXX;exact Hn si w0
 have hst₁:tn 0 h₁:=T.keep _ _ _ st fun b _ o e=>old b o e;have hfX:∀(H':Hp),(∀b∈fp,H' b=none)->∀b∈fp,eV XX [] H' b:=fun H' hn b hb=>by
  clear IC SC;subst hXX;obtain⟨z0,z1,z2,z3,z4,z5⟩:=hf b hb;refine⟨hn b hb,?_,?_,?_,?_,?_⟩
  .exact(below b (hflt b hb).2).1
  .intro hfs;rcases w_.mp (I2.stkSub b hfs)with z|z
   .exact z1 z
   .exact z2 z
  .exact .inl hb
  .exact fun x c e=>z4 x c (h1 x c e)
  .intro p hp;exact absurd (show p∈([]:List (Addr×Obj))from hp) (by simp)
 have eA:XX.A=X.A:=Eq.rec (motive:=fun z _=>z.A=X.A) rfl hXX;have eP:XX.prog=X.prog:=Eq.rec (motive:=fun z _=>z.prog=X.prog) rfl hXX;have eW:XX.w=X.w:=Eq.rec (motive:=fun z _=>z.w=X.w) rfl hXX;have eK:XX.K=X.K:=Eq.rec (motive:=fun z _=>z.K=X.K) rfl hXX;have eX:XX.xe=fun _ _=>False:=Eq.rec (motive:=fun z _=>z.xe=fun _ _=>False) rfl hXX;have eE:XX.env=Vv scope cl HH.objs.size X.env:=Eq.rec (motive:=fun z _=>z.env=Vv scope cl HH.objs.size X.env) rfl hXX;have eC:XX.calm=true:=Eq.rec (motive:=fun z _=>z.calm=true) hcalm hXX;have eH:XX.H₀=H2:=Eq.rec (motive:=fun z _=>z.H₀=H2) rfl hXX;have hg':PG XX tg (tG XX ⟨G2,H2,fun _=>none⟩ (cN nl cap m) (cN nl cap m) ft):=Eq.rec (motive:=fun z _=>PG z tg (tG z ⟨G2,H2,fun _=>none⟩ (cN nl cap m) (cN nl cap m) ft)) (hg _).2 hXX;have hq':nW XX ⟨G2,H2,fun _=>none⟩ (cN nl cap m) ifs q:=Eq.rec (motive:=fun z _=>nW z ⟨G2,H2,fun _=>none⟩ (cN nl cap m) ifs q) (hq _) hXX;have he':PE XX elt (Bg El XX ⟨G2,H2,fun _=>none⟩ (cN nl cap m) fe):=Eq.rec (motive:=fun z _=>PE z elt (Bg El z ⟨G2,H2,fun _=>none⟩ (cN nl cap m) fe)) (he _) hXX;have fin':∀{H':Hp}{s':d_}{σ':L2.St}{G':GH}{ws:List V},Inv XX [] σ' H' s'->Grow X.K G2 H2 G' H'->H' s2.heap.objs.size=some (.lst ws)->G' s2.heap.objs.size=none->Rl s2.heap.objs.size G' H' ws vs->RR (.ref s2.heap.objs.size) HH.objs.size (.ok .next) s':=fun{H' s' σ' G' ws} J1 wg hpp hgp rs=>by
  clear IC SC hfX hg' hq' he' eA eP eW eK eX eE eC eH;subst hXX;have un:=J1.base;refine hRR _ _ s' H' G' ?_ (let⟨mm,hn,_⟩:=J1.loc;⟨mm,hn⟩) J1.free (R1 (G_ I2.lt hCle)) (QI I2.sz hCle) (fun x c e z=>?_) (fun z hz e=>?_) wg hp2 ⟨_,hpp,hgp,rs⟩
  .refine I2.call' J1.os un J1.hok J1.bare fun b hb=>?_;obtain⟨z0,z1,z2,z3,z4,z5⟩:=hf b hb;exact⟨z3,z1,z4,z5⟩
  .obtain⟨v,o,ho,_⟩:=I2.cell x c e;exact absurd (G_ (s_ ho) hCle) (by rw[z];exact Ri _)
  .have:=(I2.pin z hz).1;exact absurd (G_ (s_ this) hCle) (by rw[e];exact Ri _)
 have loop:UK (D_ X.prog X.w) X.A (.compLoop (.ListComp elt [⟨tg,iter,ifs,0⟩] scope pos) 0 (.ref it) (.ref s2.heap.objs.size) (Vv scope cl HH.objs.size X.env)) (RR (.ref s2.heap.objs.size) HH.objs.size)
   { s2 with heap:=h₁,toks:=s2.toks+([]:List (Str×a_)).length }:=by
  refine JT (fun n s'=>∃(i:Nat)(σ':L2.St)(H':Hp)(G':GH)(ws:List V)(done rest:List D),Inv XX [] σ' H' s'/\SI XX ⟨G2,H2,fun _=>none⟩ (cN nl cap m) (dg nl cap r) G' σ' H'/\tn i s'.heap/\(∀b∈fp,H' b=none)/\Grow X.K G2 H2 G' H' /\H' s2.heap.objs.size=some (.lst ws)/\G' s2.heap.objs.size=none/\Rl s2.heap.objs.size G' H' ws done/\iw ft q fe (dg nl cap r) (ds.drop i)=.ok rest/\vs=done++rest/\done.length<=i/\i<=ds.length/\n=ds.length-i) ?_ ds.length
   ⟨0,_,_,G2,[],[],vs,IC,SC,hst₁,fun b hb=>?_,w0,du,hG2p,R0 _ _ _,hres,rfl,r_ _,QU _,rfl⟩
  rotate_left
  .rw[cM (below b (hflt b hb).2).2];exact(hf b hb).1
  rintro n s3 ⟨i,σ3,H3,G3,ws,done,rest,I3,S3,st3,fr3,w3,hp3,hg3,rs3,hr3,hv3,hd3,hi3,rfl⟩
  have weaken:∀{α:Type}{t:Sem α}{Q:α->d_->Prop}{s':d_}{E':a_->d_->Prop},q_ (D_ XX.prog XX.w) XX.A t Q XX.xe s'->q_ (D_ X.prog X.w) X.A t Q E' s':=fun h=>by rw[eP,eW,eA,eX]at h;exact QP h (fun _ _ z=>z) fun _ _ z=>z.elim
  by_cases hlt:i<ds.length
  .have hd:ds.drop i=ds[i]::ds.drop (i+1):=RF hlt;rw[hd]at hr3;unfold iw at hr3;have it3:=T.item XX eP eW eK eC i [] s3 σ3 H3 (Vf (D_ X.prog X.w) X.A (Vv scope cl HH.objs.size X.env) fun e s'=>RR (.ref s2.heap.objs.size) HH.objs.size (.error e) s') I3 (hfX H3 fr3) st3 (Y.go G3 H3 i w3 hlt);rw[eA]at it3;refine bU it3 fun rr s4 ⟨u,hr,h4⟩=>?_;subst hr;refine bU h4 fun _ s5 ⟨x,H5,I5,r5,y5,st5,fr5⟩=>?_;obtain⟨G5,w5,rv5⟩:=Y.yld G3 H3 i x H5 ds[i] w3 y5 (g_ hlt);have w25:=w3.trans w5;cases eft:ft ds[i] (dg nl cap r)with
  |none=>rw[eft]at hr3;cases hr3
  |some r1=>
    rw[eft]at hr3;simp only[opt_some,bind_ok]at hr3;have I5':=I5.pinned (hfX H5 fr5) (T.obj _ _ st5);have S5:SI XX ⟨G2,H2,fun _=>none⟩ (cN nl cap m) (dg nl cap r) G5 σ3 H5:=S3.grow (by rw[eK];exact w5);have rv5':RG XX.K G5 x ds[i]:=by rw[eK];exact rv5
    have as5:=hg' _ s5 σ3 H5 x u (fun σ6 H6=>H6=H5/\SI XX ⟨G2,H2,fun _=>none⟩ (cN nl cap m) r1 G5 σ6 H5) I5' r5 ⟨dg nl cap r,G5,ds[i],S5,rv5',r1,eft,fun σ6 si6=>⟨rfl,si6⟩⟩;rw[eE]at as5;refine bU (weaken as5) fun _ s6 ⟨σ6,H6,I6,e6,S6⟩=>?_;subst e6;obtain⟨fl1,fl2⟩:=hft _ _ _ eft;cases eq1:q r1 with
   |stuck=>rw[eq1]at hr3;cases hr3
   |exc xx=>rw[eq1]at hr3;cases hr3
   |ok b1=>
     rw[eq1]at hr3;simp only[bind_ok]at hr3;have te6:=hq' _ s6 σ6 H6 (fun b H7=>b=b1/\∃G7,Grow X.K G5 H6 G7 H7) I6 ⟨r1,G5,S6,by rw[eq1];exact fun G7 H7 w7=>⟨rfl,G7,by rw[eK]at w7;exact w7⟩⟩;rw[eE]at te6;refine bU (weaken te6) fun b s7 ⟨H7,I7,eb,G7,w7⟩=>?_;subst eb;have S7:SI XX ⟨G2,H2,fun _=>none⟩ (cN nl cap m) r1 G7 σ6 H7:=S6.grow (by rw[eK];exact w7);have w27:=w25.trans w7;have hp7:H7 s2.heap.objs.size=some (.lst ws):=w7.he _ _ (w5.he _ _ hp3);have hg7:G7 s2.heap.objs.size=none:=by rw[w7.gf _ (by rw[w5.he _ _ hp3];simp),w5.gf _ (by rw[hp3];simp)];exact hg3
     have back:∀{σ8:L2.St}{H8:Hp}{G8:GH}{s8:d_},Inv XX ([]++ou fp s5.heap) σ8 H8 s8->Inv XX [] σ8 H8 s8/\tn (i+1) s8.heap/\∀b∈fp,H8 b=none:=fun{σ8 H8 G8 s8} I8=>by refine⟨I8.unpinned,T.keep _ _ _ st5 fun b hb o e=>(I8.pin (b,o) (H_ _ (H_ _ (pb hb e)))).1,fun b hb=>?_⟩;obtain⟨o,e,_⟩:=T.obj _ _ st5 b hb;exact(I8.pin (b,o) (H_ _ (H_ _ (pb hb e)))).2.1
     have less:∀{σ8:L2.St}{H8:Hp}{G8:GH},SI XX ⟨G2,H2,fun _=>none⟩ (cN nl cap m) r1 G8 σ8 H8->SI XX ⟨G2,H2,fun _=>none⟩ (cN nl cap m) (dg nl cap r) G8 σ8 H8:=fun h=>h.less fl1.symm fun j d hj=>by
      by_cases hjn:j<nl
      .exact absurd hj (NK hjn d)
      .rw[fl2 j (by omega)];exact hj
     cases b with
    |false=>rw[if_neg i_]at hr3 ⊢;obtain⟨I7',t7,f7⟩:=back (G8:=G7) I7;exact⟨ds.length-(i+1),by omega,i+1,σ6,H7,G7,ws,done,rest,I7',less S7,t7,f7,w27,hp7,hg7,Rg rs3 (w5.trans w7),hr3,hv3,by omega,hlt,rfl⟩
    |true=>rw[if_pos rfl]at hr3 ⊢;cases ee1:fe r1 with
     |stuck=>rw[ee1]at hr3;cases hr3
     |exc xx=>rw[ee1]at hr3;cases hr3
     |ok d1=>rw[ee1]at hr3;simp only[bind_ok]at hr3;cases er:iw ft q fe (dg nl cap r) (ds.drop (i+1))with
      |stuck=>rw[er]at hr3;cases hr3
      |exc xx=>rw[er]at hr3;cases hr3
      |ok rest'=>
        rw[er]at hr3;simp only[bind_ok]at hr3;cases hr3;have el7:=he' _ s7 σ6 H7 (fun v H8=>∃G8,Grow X.K G7 H7 G8 H8/\El X.K G7 H7 G8 H8 v d1) I7 ⟨r1,G7,S7,by rw[ee1];exact fun v G8 H8 w8 rv=>⟨G8,by rw[eK]at w8;exact w8,by rw[eK]at rv;exact rv⟩⟩;rw[eE]at el7;refine bU (weaken el7) fun u8 s8 ⟨v8,H8,I8,r8,G8,w8,rv8⟩=>?_;have hp8:H8 s2.heap.objs.size=some (.lst ws):=w8.he _ _ hp7;have hg8:G8 s2.heap.objs.size=none:=by rw[w8.gf _ (by rw[hp7];simp)];exact hg7
        have S8:SI XX ⟨G2,H2,fun _=>none⟩ (cN nl cap m) r1 G8 σ6 H8:=S7.grow (by rw[eK];exact w8);have hlen:=Rn rs3;have ap8:=l9 (X:=XX) _ s8 σ6 H8 (.ref s2.heap.objs.size) [v8] (.ref s2.heap.objs.size) [u8] (fun v H9=>H9=upd H8 s2.heap.objs.size (.lst (ws++[v8]))) I8 rfl (.cons r8 .nil) ⟨_,ws,v8,rfl,rfl,hp8,by omega,rfl⟩;refine bU (weaken ap8) fun u9 s9 ⟨v9,H9,I9,r9,e9⟩=>?_;subst e9;obtain⟨I9',t9,f9⟩:=back (G8:=G8) I9;have rsn:=Ra (Rg rs3 (w5.trans w7)) w8 w27 hp7 rv8;have w28:=w27.trans w8;refine⟨ds.length-(i+1),by omega,i+1,σ6,_,G8,ws++[v8],done++[d1],rest',I9',less (S8.other hg8 hp2 JR _),t9,f9,?_,du,hg8,rsn,er,by rw[hv3,Ry];rfl,by rw[L_,SY];omega,hlt,rfl⟩;refine⟨fun b e hb=>(w28.ok b e hb).mono (fun _ _ z=>z) fun o z=>?_,fun b o hb=>?_,w28.ge,w28.gf⟩
        .rw[cM (by rintro rfl;rw[hg8]at hb;cases hb)];exact z
        .rw[cM (by rintro rfl;rw[hp2]at hb;cases hb)];exact w28.he b o hb
  .have e:i=ds.length:=by omega
   subst e;rw[Tf]at hr3;cases hr3;rw[QX]at hv3;subst hv3;have dn:=T.done XX eP eW eK eC ds.length [] s3 σ3 H3 (Vf (D_ X.prog X.w) X.A (Vv scope cl HH.objs.size X.env) fun e s'=>RR (.ref s2.heap.objs.size) HH.objs.size (.error e) s') I3 (hfX H3 fr3) st3 (Y.stop G3 H3 w3);rw[eA]at dn;refine bU dn fun rr s4 ⟨hr,I4⟩=>?_;subst hr;exact fin' I4 w3 hp3 hg3 rs3
 exact codeAny_compStart_list loop (T.self X.A 0 _ _ _ hst₁ loop)
end
def rq:Res (List D)->Res (List D)
|.ok d=>.ok d
|_=>.stuck
@[simp] theorem noXL_ok(d:List D):rq (.ok d)=.ok d:=rfl
def gb(nl:Nat)(cap:List Nat)(fi:FI)(ft:FT)(q:FQ)(fe:FE):FE:=fun r=>(fi r).bind fun ds=>(dM (sz ds)).bind fun ds=>(rq (iw ft q fe (dg nl cap r) ds)).bind fun vs=>.ok (.lst vs)
section
variable{X:Cx}{g:GE}{m mb:List Md}{scope:Sz}{N':List Str}{nl:Nat}{cap:List Nat}{elt tg iter:Expr}{ifs:List Expr}{pos pos' spos:Pos}{fi:FI}{ft:FT}{q:FQ}{fe:FE}{ro:Bool}
theorem EU{r:aS}{P:D->Prop}{x:D->Prop}(h:fin (gb nl cap fi ft q fe r) P x):fin (fi r) (fun ds=>∃vs,ds.length<=sizeLine/\iw ft q fe (dg nl cap r) ds=.ok vs/\P (.lst vs)) x:=by unfold gb at h;refine cY (c6 h) fun ds h1=>?_;obtain⟨ds',e2,h2⟩:=dZ (c6 h1);obtain⟨rfl,hl⟩:=wK e2;cases e3:iw ft q fe (dg nl cap r) ds' with
|ok vs=>rw[e3]at h2;exact⟨vs,hl,rfl,h2⟩
|exc x=>rw[e3]at h2;exact h2.elim
|stuck=>rw[e3]at h2;exact h2.elim
theorem CompSc.clo{pz:List (Addr×Obj)}{σ:L2.St}{H:Hp}{s:d_}(sc:CompSc X scope N' nl cap)(ok:X.Ok):∃cl,Xi scope X.env=pure cl/\(∀x c,cl.lookup x=some c->X.env.cells.lookup x=some c)/\(∀x,(x,NameKind.free)∈scope.names->∃c,cl.lookup x=some c):=OT fun y hy hf=>ok.has y.1 (sc.freeK y hy hf)
theorem lZ(hN:X.N.Nodup)(hcalm:X.calm=true)(sc:CompSc X scope N' nl cap)(hi:jV X g m tg iter fi)(hg:∀s0 H0 cl C fp g',SG (ii X s0 H0 N' scope cl C fp) g' (cN nl cap m) tg ft (cN nl cap m))(hft:jm ft nl)(hq:∀s0 H0 cl C fp g',nW (ii X s0 H0 N' scope cl C fp) g' (cN nl cap m) ifs q)(he:∀s0 H0 cl C fp g',SE (ii X s0 H0 N' scope cl C fp) g' (cN nl cap m) elt fe)(hs:∀x,Rv iter X.env x=pure x:=by intro _;rfl):SO X g m (.ListComp elt [⟨tg,iter,ifs,0⟩] scope pos) (gb nl cap fi ft q fe):=by
 intro pz s σ H Q I h;obtain⟨r,G,si,k⟩:=h;obtain⟨cl,hcl,h1,h2⟩:=sc.clo (pz:=pz) (σ:=σ) (H:=H) (s:=s) I.ok;have k1:=EU k;rw[eval_ListComp];refine UR (use:=none) rfl hs hcl sc.kind sc.names (bU (hi pz s σ H (fun J H'=>∃G' ds vs,Grow X.K G H G' H'/\YieldsC X.K J ds G' H'/\ds.length<=sizeLine/\iw ft q fe (dg nl cap r) ds=.ok vs /\(∀a G' H',Grow X.K G H G' H'->H a=none->Own X.K G' H' a (.lst vs)->Q (.ref a) H')) I ⟨r,G,si,cY k1 fun ds ⟨vs,z1,z2,z3⟩ J G' H' w y=>⟨G',ds,vs,w,y,z1,z2,z3⟩⟩) fun v s1 hv=>bU hv fun itv s2 hv2=>?_);obtain⟨it,fp,tn,J,H2,rfl,I2,T,st,hf,G2,ds,vs,w2,Y,hsz,hres,hQ⟩:=hv2;refine Fz (El:=fun K _ _ G' _ v d=>RG K G' v d) (Rl:=fun _ G _ ws ds=>dy X.K G ws ds) (fun _ _ _=>.nil) (fun h w=>h.mono w.ge) Paired.length (fun h w _ _ e=>Paired.snoc (h.mono w.ge) e) (RR:=fun acc C=>compPost (D_ X.prog X.w) X.A X.xe none (EP X pz σ Q) acc C) hN hcalm sc h1 h2 I2 (si.grow w2) T st hf Y hsz (fun C=>hg _ _ _ _ _ _) hft (fun C=>hq _ _ _ _ _ _) (fun C=>he _ _ _ _ _ _) hres ?_;intro p C s' H' G' I' hns hC1 hC2 hC3 hC4 hC5 w' hp ⟨ws,o1,o2,o3⟩;have ho:Own X.K G' H' p (.lst vs):=⟨o2,.lst o1 o3⟩
 obtain⟨mm,hn⟩:=hns;refine⟨mm,hn,fun h' hsb=>⟨.ref p,H',?_,rfl,hQ p G' H' (w2.trans w') (w2.back hp) ho⟩⟩;exact I'.turned (it:=C) (t':=s'.toks) (fun b o hb e=>hsb.extBut b o hb e) hC1 hC2.symm.symm (.inr hC3) hC4 hC5
theorem ph(i:Nat){y:Str}(hN:X.N.Nodup)(hcalm:X.calm=true)(hy:X.N[i]? = some y)(hyl:X.env.scope.names.lookup y=some .local)(sc:CompSc X scope N' nl cap)(hi:jV X g m tg iter fi)(hg:∀s0 H0 cl C fp g',SG (ii X s0 H0 N' scope cl C fp) g' (cN nl cap m) tg ft (cN nl cap m))(hft:jm ft nl)(hq:∀s0 H0 cl C fp g',nW (ii X s0 H0 N' scope cl C fp) g' (cN nl cap m) ifs q)(he:∀s0 H0 cl C fp g',SE (ii X s0 H0 N' scope cl C fp) g' (cN nl cap m) elt fe)(hsw:TY (.ListComp elt [⟨tg,iter,ifs,0⟩] scope pos) (some (.Name y pos')) spos.line X.env=pure true:=by rfl)(hs:∀x,Rv iter X.env x=pure x:=by intro _;rfl):SS X g ro mb m (.Assign [.Name y pos'] (.ListComp elt [⟨tg,iter,ifs,0⟩] scope pos) spos) (aV m i (gb nl cap fi ft q fe)) (m.set i .ow):=by
 refine⟨by simp,?_⟩;intro pz s σ H D0 I h;obtain⟨r,G,si,k⟩:=h;obtain⟨cl,hcl,h1,h2⟩:=sc.clo (pz:=pz) (σ:=σ) (H:=H) (s:=s) I.ok;have k1:=EU (ip si (m':=m.set i .ow) (by simp) k);rw[exec_Assign_Name_used _ _ _ _ hsw];refine b_ (Tj (b_ ?_));show q_ _ X.A (do let _ <-comprehension (.ListComp elt [⟨tg,iter,ifs,0⟩] scope pos) scope X.env _ (newList []) false (eval iter X.env) (some (Uv (.Name y pos') X.env))) _ _ s;refine b_ (QP (UR (use:=some (Uv (.Name y pos') X.env)) (Q:=fun _ s'=>SP X pz D0 .next s') rfl hs hcl sc.kind sc.names (bU (hi pz s σ H (fun J H'=>∃G' ds vs,Grow X.K G H G' H'/\YieldsC X.K J ds G' H'/\ds.length<=sizeLine/\iw ft q fe (dg nl cap r) ds=.ok vs /\(∀σ' G' H',bY G G'->SI X g (m.set i .ow) (r.set i (some (.lst vs))) G' σ' H'->D0.nx σ' H')) I ⟨r,G,si,cY k1 fun ds ⟨vs,z1,z2,z3⟩ J G' H' w y=>⟨G',ds,vs,w,y,z1,z2,z3⟩⟩) fun v s1 hv=>bU hv fun itv s2 hv2=>?_)) (fun _ s' hq=>j_ (j_ hq)) fun _ _ e=>e);obtain⟨it,fp,tn,J,H2,rfl,I2,T,st,hf,G2,ds,vs,w2,Y,hsz,hres,hQ⟩:=hv2;refine Fz (El:=fun K _ _ G' _ v d=>RG K G' v d) (Rl:=fun _ G _ ws ds=>dy X.K G ws ds) (fun _ _ _=>.nil) (fun h w=>h.mono w.ge) Paired.length (fun h w _ _ e=>Paired.snoc (h.mono w.ge) e) (RR:=fun acc C=>compPost (D_ X.prog X.w) X.A X.xe (some (Uv (.Name y pos') X.env)) (fun _ s'=>SP X pz D0 .next s') acc C) hN hcalm sc h1 h2 I2 (si.grow w2) T st hf Y hsz (fun C=>hg _ _ _ _ _ _) hft (fun C=>hq _ _ _ _ _ _) (fun C=>he _ _ _ _ _ _) hres ?_;intro p C s' H' G' I' hns hC1 hC2 hC3 hC4 hC5 w' hp ⟨ws,o1,o2,o3⟩;have ho:Own X.K G' H' p (.lst vs):=⟨o2,.lst o1 o3⟩
 obtain⟨mm,hn⟩:=hns;show q_ _ X.A (Uv (.Name y pos') X.env (.ref p)) _ _ s';refine V8 (E9 I' hN hy (.inl hyl) (v:=.ref p) rfl (fun s'' I'' ⟨a,hsb,ha⟩=>?_) (.inr hyl));have hCa:C≠a:=by
  rcases ha with z|z
  .rw[z];exact hC2
  .exact(hC4 y a z).symm
 refine⟨mm,hn.sameBut hsb hCa,fun h' hsb'=>?_⟩;refine⟨_,H',I''.turned (it:=C) (t':=s''.toks) (fun b o hb e=>hsb'.extBut b o hb e) hC1 hC2 (.inr hC3) hC4 hC5,?_⟩;exact hQ _ G' H' (w2.trans w').ge (si.setN (w2.trans w') i (w2.back hp) ho)
end
def jZ(K:W.Frag)(r:V->List V->Hp->VK->Prop)(mk:D->List D->Option D):Prop:=∀(G:GH)(H:Hp)(a:Addr)(d:D)(vs:List V)(ds:List D)(d':D)(Q:VK),bZ K G H->Own K G H a d->dy K G vs ds->mk d ds=some d' ->(∀o',OwnO K G (upd H a o') a d'->Q .non (upd H a o'))->r (.ref a) vs H Q
def vL(T:String):D->Bool
|.lst _=>T == "list"
|.dic _=>T == "dict"
|_=>false
def eG(T:String)(m:List Md)(i:Nat)(fl:aS->Res (List D))(mk:D->List D->Option D):FS:=fun r=>match r[i]? with
|some (some d)=>if vL T d=true then onE m r (fl r) fun ds=>(match mk d ds with
 |some d'=>.nx (r.set i (some d'))
 |none=>.stuck)else .stuck
|_=>.stuck
theorem Kd{K:W.Frag}{G:GH}{H:Hp}{a:Addr}{d:D}{T:String}(o:Own K G H a d)(t:vL T d=true):pB K T (.ref a) H:=by cases o.ob with
|lst r s=>exact .inl ⟨RK t,_,c7.of r⟩
|dic r s=>exact .inr (.inr (.inl ⟨RK t,.inl ⟨_,.inl r⟩⟩))
section
variable{X:Cx}{g:GE}{m mb:List Md}{e a b o:Expr}{es:List Expr}{f fa fb:FE}{fl:aS->Res (List D)}{pos pos' apos cpos:Pos}{ro:Bool}{x name:Str}{T id:String}{R:V->List V->Hp->VK->Prop}{mk:D->List D->Option D}
theorem Nu(i:Nat)(hm:m[i]? = some .ow)(hk:jZ X.K R mk){D0:Ends}{σ:L2.St}{H:Hp}(h:tS X g ro m m mb (eG T m i fl mk) D0 σ H):∃v,σ[i]? = some (some v)/\pB X.K T v H/\tL X g m fl σ H fun xs H2=>R v xs H2 fun _ H1=>D0.nx σ H1:=by obtain⟨r,G,si,k⟩:=h;unfold eG at k;cases er:r[i]? with
|none=>simp only[er]at k;exact(show False from k).elim
|some oo=>cases oo with
 |none=>simp only[er]at k;exact(show False from k).elim
 |some d=>
   simp only[er]at k;by_cases ht:vL T d=true
   .rw[if_pos ht]at k;obtain⟨a,h1,h2,h3⟩:=si.mut hm er;refine⟨_,h1,Kd h2 ht,r,G,si,cY (ip si rfl k) fun ds k2 vs G' H' w rs=>?_⟩;cases em:mk d ds with
   |none=>simp only[em]at k2;exact(show False from k2).elim
   |some d'=>simp only[em]at k2;obtain⟨a',h1',h2',h3'⟩:=(si.grow w).mut hm er;rw[h1]at h1';cases h1';exact hk G' H' a d vs ds d' _ w.ok h2' rs em fun o' ob=>k2 σ G' _ w.ge (h3' o' d' ob)
   .rw[if_neg ht]at k;exact(show False from k).elim
theorem jE(i:Nat)(hm:m[i]? = some .ow)(pa:VX T)(slot:Slot T name id)(hty:Wu (.builtin id)=pure (.type "method_descriptor"))(hmt:my X id R)(hk:jZ X.K R mk)(hN:X.N[i]? = some x)(hv:jC X.env.scope x)(ha:SA X g m (e::es) fl)(hd:(x==("__debug__" : Str))=false:=by decide)(hcd:(x==("__classdict__" : Str))=false:=by decide)(hbase:RN (.Name x pos') name X.env (eval (.Name x pos') X.env)=eval (.Name x pos') X.env:=by rfl)(hfew:((backTo cpos (h_ (e::es) X.env)).all (fun x=>! x.1)&&(Vr cpos (T9 [] X.env)).all (fun x=>x.1.isSome)&&decide ((e::es).length+([]:List T5).length+(if ([]:List T5).isEmpty then 0 else 1)<30))=true:=by rfl)(hline:(apos.endLine==cpos.line)=true:=by rfl)(hst:h_ (e::es) X.env=(false,eval e X.env)::h_ es X.env:=by rfl)(hplain:(backTo cpos (h_ es X.env)).any (·.1)=false:=by rfl):SS X g ro mb m (.Expr (.Call (.Attribute (.Name x pos') name apos) (e::es) [] cpos) pos) (eG T m i fl mk) m:=⟨rfl,PS.imp (yA (Cc pa slot hty hmt (kS hN hv hd hcd) ha hbase hfew hline hst hplain)) fun D0 σ H h=>Nu i hm hk h⟩
def appD:D->List D->Option D
|.lst ds,[d]=>if ds.length<sizeLine then some (.lst (ds++[d]))else none
|_,_=>none
theorem mW{K:W.Frag}:jZ K Dy appD:=by
 intro G H a d vs ds d' Q gk ow rs e q;unfold appD at e;split at e
 .split at e
  .rename_i hl;cases e;cases ow.ob with
  |lst r s=>cases rs with
   |cons r1 t=>cases t;have:=Paired.length s;exact⟨a,_,_,rfl,rfl,r,by omega,q _ (.lst du (Paired.snoc s r1))⟩
  .cases e
 .cases e
def wH(x:Int)(n:Nat):Nat:=if x<0 then(x+(n:Int)).toNat else min x.toNat n
def dP{α:Type}(xs:List α)(x:Int)(y:α):List α:=xs.take (wH x xs.length)++y::xs.drop (wH x xs.length)
def DA:V->List V->Hp->VK->Prop:=fun x vs H Q=>∃l xs i y,x=.ref l/\vs=[.int i,y]/\H l=some (.lst xs)/\-(2^63)<=i/\i<2^63/\xs.length<sizeLine/\Q .non (upd H l (.lst (dP xs i y)))
theorem Oc:my X "list.insert" DA:=by
 intro pz s σ H x vs v us Q I rx rv h;obtain⟨l,xs,i,y,rfl,rfl,hH,h1,h2,hz,q⟩:=h;cases rx;obtain⟨u,w',rfl,⟨t,rfl⟩,ry⟩:=sk rv;obtain⟨z,its,n,r,hl,e⟩:=I.lstM hH;have hfit:¬(! UA i)=true:=by rw[fitsIndex_both h1 h2];exact i_
 refine Vb US ⟨_,e,rfl⟩ PySem.F.entry_list_insert (PySem.F.args_list_insert_3 _ _ _) (AutoListH.list_insert_list_int_val_1 l its.toArray n i t w' hfit (by rw[o_];omega)) ⟨e,?_⟩;refine⟨.non,_,I.lset (its':=dP its i w') hH e ?_ ?_ ?_,rfl,q⟩
 .show((its.toArray.extract 0 (if i<0 then(i+((its.toArray.size:Nat):Int)).toNat else min i.toNat its.toArray.size)).push w'++its.toArray.extract (if i<0 then(i+((its.toArray.size:Nat):Int)).toNat else min i.toNat its.toArray.size))=(dP its i w').toArray;rw[o_];unfold dP wH;generalize(if i<0 then(i+((its.length:Nat):Int)).toNat else min i.toNat its.length)=k;apply Ys;simp;exact Vg (by rw[QY];exact r_ _)
 .unfold dP;rw[hl];exact aU.append (r.take _) (.cons ry (r.drop _))
 .unfold dP;rw[L_,Q8,QM,QY];omega
def insD:D->List D->Option D
|.lst ds,[.int i,d]=>if ds.length<sizeLine/\-(2^63)<=i/\i<2^63 then some (.lst (dP ds i d))else none
|_,_=>none
theorem HK{α β:Type}{F:α->β->Prop}{l:List α}{r:List β}{x:α}{y:β}(h:Paired F l r)(i:Int)(hxy:F x y):Paired F (dP l i x) (dP r i y):=by unfold dP;rw[Paired.length h];exact Paired.app (Paired.tk _ h) (.cons hxy (Paired.dr _ h))
theorem HL{K:W.Frag}:jZ K DA insD:=by
 intro G H a d vs ds d' Q gk ow rs e q;unfold insD at e;split at e
 .split at e
  .rename_i hl;cases e;cases ow.ob with
  |lst r s=>cases rs with
   |cons r1 t=>cases t with
    |cons r2 t=>cases t;have:=Paired.length s;exact⟨a,_,_,_,rfl,by rw[r1.int gk],r,hl.2.1,hl.2.2,by omega,q _ (.lst du (HK s _ r2))⟩
  .cases e
 .cases e
end
def dX:D->Bool
|.non=>true
|.bl _=>true
|.int _=>true
|.str _=>true
|_=>false
def hZ:D->V
|.non=>.non
|.bl b=>.bl b
|.int i=>.int i
|.str x=>.str x
|_=>.non
def fZ(a b:D):Bool:=jh (hZ a) (hZ b)
@[simp] theorem eqs_int(a b:Int):fZ (.int a) (.int b)=(a==b):=rfl
@[simp] theorem eqs_str(a b:Str):fZ (.str a) (.str b)=(a==b):=rfl
@[simp] theorem eqs_non_int(b:Int):fZ .non (.int b)=false:=rfl
@[simp] theorem eqs_int_non(b:Int):fZ (.int b) .non=false:=rfl
section
variable{K:W.Frag}{G:GH}{H:Hp}{v:V}{d:D}
theorem RB.flat(h:RB K G H v d)(gk:bZ K G H)(hf:dX d=true):v=hZ d/\iy v=true:=by cases d with
|non=>rw[h.non gk];exact⟨rfl,rfl⟩
|bl b=>rw[h.bl gk];exact⟨rfl,rfl⟩
|int i=>rw[h.int gk];exact⟨rfl,rfl⟩
|str x=>rw[h.str gk];exact⟨rfl,rfl⟩
|_=>cases hf
theorem BW{xs:List V}{ds:List D}(h:dy K G xs ds)(gk:bZ K G H)(hf:ds.all dX=true):xs=ds.map hZ/\xs.all iy=true:=by induction h with
|nil=>exact⟨rfl,rfl⟩
|cons r t ih=>rw[T6,J_]at hf;obtain⟨e1,e2⟩:=RB.flat (H:=H) r.rb gk hf.1;obtain⟨e3,e4⟩:=ih hf.2;exact⟨by rw[QE,<-e3,<-e1],by rw[T6,e2,e4];rfl⟩
end
def gQ:D->Option bQ
|.int i=>some (.inl i)
|.str x=>some (.inr x)
|_=>none
def fu(kvs:List (bQ×D))(k:bQ):Bool:=kvs.any fun kv=>decide (kv.1=k)
def dm(kvs:List (bQ×D))(k:bQ):Option D:=(kvs.find? fun kv=>decide (kv.1=k)).map (·.2)
def inB(x c:D):Option Bool:=match c with
|.lst ds=>if dX x=true/\ds.all dX=true then some (ds.any fun y=>fZ y x)else none
|.tup ds=>if dX x=true/\ds.all dX=true then some (ds.any fun y=>fZ y x)else none
|.dic kvs=>(gQ x).map (fu kvs)
|.str y=>match x with
 |.str z=>some (!(RS y z 0 y.length 1).isEmpty)
 |_=>none
|_=>none
def iN(x c:D):Option D:=(inB x c).map .bl
def fj(x c:D):Option D:=(inB x c).map fun b=>.bl (! b)
theorem Cy{K:W.Frag}{G:GH}{k:bQ}{ps:List (bQ×V)}{kvs:List (bQ×D)}(h:gK K G ps kvs)(d:D)(e:dm kvs k=some d):∃v,d5 ps k=some v/\RG K G v d:=by induction h with
|nil=>cases e
|@cons p q ps kvs r t ih=>
  obtain⟨k1,v1⟩:=p;obtain⟨k2,d2⟩:=q;obtain⟨e1,r1⟩:=r;have e1':k1=k2:=e1;subst e1';by_cases hk:k1=k
  .subst hk;have:d2=d:=by simpa[dm,QH]using e
   subst this;exact⟨v1,tx rfl,r1⟩
  .have e':dm kvs k=some d:=by simpa[dm,QH,hk]using e
   obtain⟨v,h1,h2⟩:=ih e';exact⟨v,by rw[qf hk];exact h1,h2⟩
theorem NO{K:W.Frag}{G:GH}{k:bQ}{ps:List (bQ×V)}{kvs:List (bQ×D)}(h:gK K G ps kvs)(e:dm kvs k=none):d5 ps k=none:=by induction h with
|nil=>rfl
|@cons p q ps kvs r t ih=>
  obtain⟨k1,v1⟩:=p;obtain⟨k2,d2⟩:=q;obtain⟨e1,r1⟩:=r;have e1':k1=k2:=e1;subst e1';by_cases hk:k1=k
  .subst hk;simp[dm,QH]at e
  .have e':dm kvs k=none:=by simpa[dm,QH,hk]using e
   rw[qf hk];exact ih e'
theorem HF(kvs:List (bQ×D))(k:bQ):fu kvs k=(dm kvs k).isSome:=by induction kvs with
|nil=>rfl
|cons p r ih=>
  by_cases e:p.1=k
  .simp[fu,dm,QH,e]
  .have h1:fu (p::r) k=fu r k:=by simp[fu,e]
   have h2:dm (p::r) k=dm r k:=by simp[dm,QH,e]
   rw[h1,h2,ih]
theorem wS{K:W.Frag}{G:GH}{H:Hp}{v:V}{d:D}{k:bQ}(gk:bZ K G H)(h:RB K G H v d)(e:gQ d=some k):v=kV k:=by cases d with
|int i=>cases e;exact h.int gk
|str x=>cases e;exact h.str gk
|_=>cases e
section
variable{X:Cx}{g:GE}{m mb:List Md}{e a b o c:Expr}{f fa fb fc:FE}{pos pos':Pos}
def nF(neg:Bool):R2:=fun y x H Q=>∃a o,x=.ref a/\gE H a y o/\Q (.bl (if neg then ! o.isSome else o.isSome)) H
theorem Je(hu:X.A.units+1<R6):cV X (QG .In) (nF false):=by intro pz s σ H y x u v Q I ry rx h;obtain⟨a,oo,rfl,hg,q⟩:=h;cases rx;exact Bx hu I hg ry fun s' I'=>⟨.bl _,H,I',rfl,q⟩
theorem Ko(hu:X.A.units+1<R6):cV X (QG .NotIn) (nF true):=by intro pz s σ H y x u v Q I ry rx h;obtain⟨a,oo,rfl,hg,q⟩:=h;cases rx;exact JU hu I hg ry fun s' I'=>⟨.bl _,H,I',rfl,q⟩
def i9(K:W.Frag)(neg:Bool):R2:=fun x y H Q=>Bo K neg x y H Q\/nF neg x y H Q\/∃i j,x=.str i/\y=.str j/\Q (.bl (if neg then !(!(RS j i 0 j.length 1).isEmpty)else !(RS j i 0 j.length 1).isEmpty)) H
theorem Jd(hu:X.A.units+1<R6):cV X (QG .In) (i9 X.K false):=cV.or Oi (cV.or (Je hu) Oj)
theorem Kn(hu:X.A.units+1<R6):cV X (QG .NotIn) (i9 X.K true):=cV.or PM (cV.or (Ko hu) PN)
theorem De{K:W.Frag}(neg:Bool):fQ K (i9 K neg) (fun x c=>(inB x c).map fun b=>.bl (if neg then ! b else b)):=by
 intro G H v1 v2 d1 d2 d Q gk r1 r2 e q;have seq:∀{xs:List V}{ds:List D}{p:Addr},dy K G xs ds->v2=.ref p->(c7 K H p xs\/dQ K H p xs)->dX d1=true->ds.all dX=true->d=.bl (if neg then !(ds.any fun y=>fZ y d1)else ds.any fun y=>fZ y d1)->i9 K neg v1 v2 H Q:=fun{xs ds p} rs e2 hs hf hfs ed=>by
  obtain⟨e1,f1⟩:=RB.flat r1 gk hf;obtain⟨e3,f3⟩:=BW rs gk hfs;refine .inl ⟨p,xs,e2,hs,f1,f3,q _ G H (Grow.refl gk) ?_⟩;have:vQ v1 xs=ds.any fun y=>fZ y d1:=by unfold vQ;rw[e3,Uq,e1];rfl
  rw[this,ed];exact .scl (.bl _)
 cases d2 with
|lst ds=>
  by_cases hc:dX d1=true/\ds.all dX=true
  .simp only[inB,if_pos hc,Ud]at e;obtain⟨p,xs,e2,hs,rs⟩:=r2.lst gk;exact seq rs e2 (.inl hs) hc.1 hc.2 (z_ e).symm
  .simp only[inB,if_neg hc,WX]at e;cases e
|tup ds=>
  by_cases hc:dX d1=true/\ds.all dX=true
  .simp only[inB,if_pos hc,Ud]at e;obtain⟨p,xs,e2,hs,rs⟩:=r2.tup gk;exact seq rs e2 (.inr hs) hc.1 hc.2 (z_ e).symm
  .simp only[inB,if_neg hc,WX]at e;cases e
|dic kvs=>simp only[inB]at e;cases ek:gQ d1 with
 |none=>rw[ek]at e;cases e
 |some k=>
   rw[ek]at e;cases e;obtain⟨p,ps,rfl,hs,rs⟩:=r2.dic gk;refine .inr (.inl ⟨p,d5 ps k,rfl,by rw[wS gk r1 ek];exact .inl ⟨ps,k,hs,rfl,rfl⟩,q _ G H (Grow.refl gk) ?_⟩);have:(d5 ps k).isSome=fu kvs k:=by rw[HF];cases eg:dm kvs k with
   |none=>rw[NO rs eg];rfl
   |some d=>obtain⟨v,h1,_⟩:=Cy rs d eg;rw[h1];rfl
   rw[this];exact .scl (.bl _)
|str y=>cases d1 with
 |str z=>cases e;exact .inr (.inr ⟨z,y,r1.str gk,r2.str gk,q _ G H (Grow.refl gk) (.scl (.bl _))⟩)
 |_=>cases e
|_=>cases e
theorem HB{K:W.Frag}:fQ K (i9 K false) iN:=by
 have h:=De (K:=K) false;have e:(fun x c=>(inB x c).map fun b=>D.bl (if false=true then ! b else b))=iN:=by funext x c;unfold iN;cases inB x c <;> rfl
 rw[e]at h;exact h
theorem JB{K:W.Frag}:fQ K (i9 K true) fj:=by
 have h:=De (K:=K) true;have e:(fun x c=>(inB x c).map fun b=>D.bl (if true=true then ! b else b))=fj:=by funext x c;unfold fj;cases inB x c <;> rfl
 rw[e]at h;exact h
theorem lx(hu:X.A.units+1<R6)(ha:SB X g m a fa)(hb:SB X g m b fb)(hm:Si .In b=false:=by rfl):SQ X g m (.Compare a [.In] [b] pos) (bW (f2 fa fb iN)):=lS (Jd hu) HB ha hb hm
theorem n5(hu:X.A.units+1<R6)(ha:SB X g m a fa)(hb:SB X g m b fb)(hm:Si .NotIn b=false:=by rfl):SQ X g m (.Compare a [.NotIn] [b] pos) (bW (f2 fa fb fj)):=lS (Kn hu) JB ha hb hm
def jR:D->D->Option D
|.non,.non=>some (.bl true)
|_,.non=>some (.bl false)
|_,_=>none
def iM:D->D->Option D
|.non,.non=>some (.bl false)
|_,.non=>some (.bl true)
|_,_=>none
theorem RB.isnon{K:W.Frag}{G:GH}{H:Hp}{v:V}{d:D}(gk:bZ K G H)(h:RB K G H v d):(v=.non↔d=.non):=by
 constructor
 .intro e;subst e;rcases h with h|⟨a,e,_⟩
  .cases h with
  |scl s=>cases s;rfl
  .cases e
 .intro e;subst e;exact h.non gk
theorem HC{K:W.Frag}:fQ K (fun x y H Q=>y=.non/\Q (.bl (decide (x=.non))) H) jR:=by intro G H v1 v2 d1 d2 d Q gk r1 r2 e q;have hn:=r1.isnon gk;cases d2 with
|non=>refine⟨r2.non gk,q _ G H (Grow.refl gk) ?_⟩;cases d1 with
 |non=>cases e;rw[decide_eq_true (hn.mpr rfl)];exact .scl (.bl _)
 |_=>cases e;rw[decide_eq_false (fun z=>by have:=hn.mp z;cases this)];exact .scl (.bl _)
|_=>cases d1 <;> cases e
theorem HM{K:W.Frag}:fQ K (fun x y H Q=>y=.non/\Q (.bl (! decide (x=.non))) H) iM:=by intro G H v1 v2 d1 d2 d Q gk r1 r2 e q;have hn:=r1.isnon gk;cases d2 with
|non=>refine⟨r2.non gk,q _ G H (Grow.refl gk) ?_⟩;cases d1 with
 |non=>cases e;rw[decide_eq_true (hn.mpr rfl)];exact .scl (.bl _)
 |_=>cases e;rw[decide_eq_false (fun z=>by have:=hn.mp z;cases this)];exact .scl (.bl _)
|_=>cases d1 <;> cases e
theorem lw(ha:SB X g m a fa)(hb:SB X g m b fb):SQ X g m (.Compare a [.Is] [b] pos) (bW (f2 fa fb jR)):=lS Jf HC ha hb (mP _)
theorem GX(ha:SB X g m a fa)(hb:SB X g m b fb):SQ X g m (.Compare a [.IsNot] [b] pos) (bW (f2 fa fb iM)):=lS Kp HM ha hb (mP _)
end
end DL
section
namespace DL
open PySem PySem.Spec PyProof.Rows L2
section
variable{X:Cx}{g:GE}{m mb:List Md}{e a b o c:Expr}{f fa fb fc:FE}{pos pos' p1 p2:Pos}{ro:Bool}{x:Str}
def q8:R2:=fun x y H Q=>∃a v,x=.ref a/\gE H a y (some v)/\Q v H
theorem HQ(hu:X.A.units+1<R6):j3 X q8:=by intro value slice pz s σ H x y v u Q I rx ry h hs;obtain⟨a,w,rfl,hg,q⟩:=h;cases rx;exact tail_any (Pa I hg) PySem.F.slot_dict_getitem.lookup (NM hu I hg ry fun w' s' I' rw'=>⟨w,H,I',rw',q⟩) hs
def dj:D->D->Option D
|.dic kvs,k=>(gQ k).bind (dm kvs)
|c,k=>ixD c k
theorem HP{K:W.Frag}:fQ K (fun x y H Q=>q8 x y H Q\/Bn K x y H Q) dj:=by intro G H v1 v2 d1 d2 d Q gk r1 r2 e q;cases d1 with
|dic kvs=>obtain⟨a,ps,rfl,hs,rs⟩:=r1.dic gk;have e':(gQ d2).bind (dm kvs)=some d:=e;cases ek:gQ d2 with
 |none=>rw[ek]at e';cases e'
 |some k=>rw[ek]at e';obtain⟨v,h1,h2⟩:=Cy rs d e';refine .inl ⟨a,v,rfl,?_,q v G H (Grow.refl gk) h2⟩;rw[wS gk r2 ek,<-h1];exact .inl ⟨ps,k,hs,rfl,rfl⟩
|lst ds=>exact .inr (vZ G H v1 v2 _ d2 d Q gk r1 r2 e q)
|tup ds=>exact .inr (vZ G H v1 v2 _ d2 d Q gk r1 r2 e q)
|str ds=>exact .inr (vZ G H v1 v2 _ d2 d Q gk r1 r2 e q)
|_=>cases e
theorem g9(hu:X.A.units+1<R6)(ha:SB X g m a fa)(hb:SB X g m b fb)(hs:xI b:=by intro _ _;rfl):SE X g m (.Subscript a b pos) (f2 fa fb dj):=wJ HP (GT (j3.or (HQ hu) HR) ha hb hs)
theorem mQ:SO X g m (.Dict [] [] pos) fun _=>.ok (.dic []):=PE.imp Na fun σ H Q ⟨r,G,si,q⟩ p hp=>q p G _ (Grow.new si.gok hp _) hp ⟨si.gok.isN hp,.dic du .nil⟩
def eQ(kvs:List (bQ×D))(k:bQ)(d:D):List (bQ×D):=if (kvs.any fun kv=>decide (kv.1=k))=true then kvs.map fun kv=>if kv.1=k then(kv.1,d)else kv else kvs++[(k,d)]
theorem Mn{K:W.Frag}{G:GH}{k:bQ}{ps:List (bQ×V)}{kvs:List (bQ×D)}(h:gK K G ps kvs):(ps.any fun kv=>decide (kv.1=k))=kvs.any fun kv=>decide (kv.1=k):=by induction h with
|nil=>rfl
|cons r t ih=>rw[SV,SV,ih,r.1]
theorem B1{K:W.Frag}{G:GH}{ps:List (bQ×V)}{kvs:List (bQ×D)}{k:bQ}{v:V}{d:D}(r:gK K G ps kvs)(h:RG K G v d):gK K G (dL ps k v) (eQ kvs k d):=by
 unfold dL eQ;rw[Mn r];by_cases hc:(kvs.any fun kv=>decide (kv.1=k))=true
 .rw[if_pos hc,if_pos hc];clear hc
  induction r with
 |nil=>exact .nil
 |@cons p q ps kvs r t ih=>
   refine .cons ?_ ih;obtain⟨p1,p2⟩:=p;obtain⟨q1,q2⟩:=q;have e:p1=q1:=r.1;subst e;by_cases hk:p1=k
   .simp only[hk,if_true,true_and];exact h
   .simp only[hk,if_false,true_and];exact r.2
 .rw[if_neg hc,if_neg hc];exact Paired.snoc r ⟨rfl,h⟩
def gr:D->D->D->Option D
|.lst ds,.int k,v=>(iL ds.length k).map fun j=>.lst (ds.set j v)
|.dic kvs,k,v=>(gQ k).bind fun k=>if kvs.length<sizeLine then some (.dic (eQ kvs k v))else none
|_,_,_=>none
def B3:V->V->V->Hp->(Hp->Prop)->Prop:=fun o i v H Q=>∃p H',o=.ref p/\iR H p i v H'/\Q H'
theorem Lx(hu:X.A.units+1<R6):ij X B3:=by intro pz s σ H o i v ov iv u Q I ro ri rv h;obtain⟨p,H',rfl,hp,q⟩:=h;cases ro;exact NN hu I hp ri rv fun s' I'=>⟨H',I',q⟩
theorem ij.or{t t':lG}(h:ij X t)(h':ij X t'):ij X (fun o i v H Q=>t o i v H Q\/t' o i v H Q):=by
 intro pz s σ H o i v ov iv u Q I ro ri rv q;rcases q with q|q
 .exact h pz s σ H o i v ov iv u Q I ro ri rv q
 .exact h' pz s σ H o i v ov iv u Q I ro ri rv q
theorem J3{K:W.Frag}{G:GH}{H:Hp}{a:Addr}{d k v d':D}{kv vv:V}{Q:Hp->Prop}(gk:bZ K G H)(ow:Own K G H a d)(rk:RB K G H kv k)(rv:RG K G vv v)(e:gr d k v=some d')(q:∀o',OwnO K G (upd H a o') a d'->Q (upd H a o')):B4 (.ref a) kv vv H Q\/B3 (.ref a) kv vv H Q:=by cases ow.ob with
|@lst xs ds r s=>cases k with
 |int k=>have e':(iL ds.length k).map (fun j=>D.lst (ds.set j v))=some d':=e;cases ej:iL ds.length k with
  |none=>rw[ej]at e';cases e'
  |some j=>rw[ej]at e';cases e';exact .inl ⟨a,xs,k,j,rfl,rk.int gk,r,by rw[Paired.length s];exact ej,q _ (.lst du (Paired.st rv j s))⟩
 |_=>cases e
|@dic ps kvs r s=>have e':(gQ k).bind (fun k=>if kvs.length<sizeLine then some (D.dic (eQ kvs k v))else none)=some d':=e;cases ek:gQ k with
 |none=>rw[ek]at e';cases e'
 |some k'=>
   rw[ek]at e';have e2:(if kvs.length<sizeLine then some (D.dic (eQ kvs k' v))else none)=some d':=e';by_cases hl:kvs.length<sizeLine
   .rw[if_pos hl]at e2;cases e2;have:=Paired.length s;refine .inr ⟨a,_,rfl,?_,q _ (.dic du (B1 s rv))⟩;rw[wS gk rk ek];exact iR.k r (by omega)
   .rw[if_neg hl]at e2;cases e2
def gO(m:List Md)(i:Nat)(fk fv:FE):FS:=fun r=>onE m r (fv r) fun v=>match r[i]? with
|some (some d)=>onE m r (fk r) fun k=>(match gr d k v with
 |some d'=>.nx (r.set i (some d'))
 |none=>.stuck)
|_=>.stuck
theorem n6(i:Nat)(hu:X.A.units+1<R6)(hm:m[i]? = some .ow)(hN:X.N[i]? = some x)(hv:jC X.env.scope x)(hk:SB X g m b fb)(he:SE X g m e f)(hd:(x==("__debug__" : Str))=false:=by decide)(hcd:(x==("__classdict__" : Str))=false:=by decide)(ha:∀v,Uv (.Subscript (.Name x p1) b p2) X.env v=(do
   let ov <-Uo [v] (eval (.Name x p1) X.env);let iv <-Uo [v,ov] (eval b X.env)
   W4 p2
   Uo [v,ov,iv] (X_ ov iv v)
   release [v,ov,iv] []):=by intro _;rfl)(hs:swapsWithSole [.Subscript (.Name x p1) b p2] e pos.line X.env=pure false:=by rfl)(hw:swappedStores [.Subscript (.Name x p1) b p2] e X.env=pure none:=by rfl)(h1:(RJ [.Subscript (.Name x p1) b p2] X.env).map (·.2)=[Uv (.Subscript (.Name x p1) b p2) X.env]:=by rfl):SS X g ro mb m (.Assign [.Subscript (.Name x p1) b p2] e pos) (gO m i fb f) m:=by refine⟨rfl,PS.imp (IP he (IG (kS hN hv hd hcd) hk (ij.or MM (Lx hu)) ha) hs hw h1) fun D0 σ H ⟨r,G,si,k⟩=>⟨r,G,si,?_⟩⟩;refine cY (ip si rfl k) fun v k1 vv G1 H1 w1 rv=>?_;cases er:r[i]? with
|none=>simp only[er]at k1;exact(show False from k1).elim
|some oo=>cases oo with
 |none=>simp only[er]at k1;exact(show False from k1).elim
 |some d=>simp only[er]at k1;obtain⟨a,h1,h2,h3⟩:=(si.grow w1).mut hm er;refine⟨_,h1,r,G1,si.grow w1,?_⟩;refine cY (ip (m:=m) (si.grow w1) rfl (dC.gle k1 w1.ge)) fun kk k2 kv G2 H2 w2 rk=>?_;cases es:gr d kk v with
  |none=>simp only[es]at k2;exact(show False from k2).elim
  |some d'=>simp only[es]at k2;obtain⟨a',h1',h2',h3'⟩:=((si.grow w1).grow w2).mut hm er;rw[h1]at h1';cases h1';exact J3 w2.ok h2' rk (rv.mono w2.ge) es fun o' ob=>k2 σ G2 _ w2.ge (h3' o' d' ob)
end
mutual
def bV:D->PyData
|.non=>.none
|.bl b=>.bool b
|.int i=>.int i
|.str x=>.str x
|.tup ds=>.tuple (zc5 ds)
|.lst ds=>.list (zc5 ds)
|.dic _=>.none
|.obj _ _=>.none
def zc5:List D->List PyData
|[]=>[]
|d::ds=>bV d::zc5 ds
end
def dD:Nat->D->Prop
|_,.non=>True
|_,.bl _=>True
|_,.int _=>True
|_,.str x=>Ye x=true
|0,.tup _=>False
|0,.lst _=>False
|k+1,.tup ds=>∀d∈ds,dD k d
|k+1,.lst ds=>∀d∈ds,dD k d
|_,.dic _=>False
|_,.obj _ _=>False
theorem oO{k:Nat}{ds:List D}:dD (k+1) (.lst ds)↔∀d∈ds,dD k d:=by simp only[dD]
theorem sN{k:Nat}{ds:List D}:dD (k+1) (.tup ds)↔∀d∈ds,dD k d:=by simp only[dD]
def mv(a b:D):Bool:=Rz (bV a) (bV b)
section
variable{X:Cx}{pz:List (Addr×Obj)}{σ:L2.St}{H:Hp}{s:d_}{G:GH}
theorem Fg{k:Nat}(ih:∀(d:D)(v:V)(u:a_),dD k d->RG X.K G v d->L2.aY v u->∃as,Reads s.heap u (bV d) as)(ds:List D)(vs:List V)(us:List a_)(h:∀d∈ds,dD k d)(r:dy X.K G vs ds)(q:aU vs us):∃as,ReadsAll s.heap us (zc5 ds) as:=by induction r generalizing us with
|nil=>cases q;exact⟨[],.nil⟩
|cons r t ih'=>cases q with
 |cons r' t'=>obtain⟨a1,h1⟩:=ih _ _ _ (h _ k_) r r';obtain⟨a2,h2⟩:=ih' _ (fun x hx=>h x (m_ _ hx)) t';exact⟨a1++a2,.cons h1 h2⟩
theorem sU(I:Inv X pz σ H s)(gk:bZ X.K G H):∀(k:Nat)(d:D)(v:V)(u:a_),dD k d->RB X.K G H v d->L2.aY v u->∃as,Reads s.heap u (bV d) as:=by
 intro k
 induction k with
|zero=>intro d v u hs r ru;cases d with
 |non=>rw[r.non gk]at ru;cases ru;exact⟨_,.none⟩
 |bl b=>rw[r.bl gk]at ru;cases ru;exact⟨_,.bool b⟩
 |int i=>rw[r.int gk]at ru;obtain⟨t,rfl⟩:=ru;exact⟨_,.int i t⟩
 |str x=>rw[r.str gk]at ru;obtain⟨t,rfl⟩:=ru;exact⟨_,.str x t⟩
 |tup _=>unfold dD at hs;exact hs.elim
 |lst _=>unfold dD at hs;exact hs.elim
 |dic _=>unfold dD at hs;exact hs.elim
 |obj _ _=>unfold dD at hs;exact hs.elim
|succ k ih=>intro d v u hs r ru;cases d with
 |non=>rw[r.non gk]at ru;cases ru;exact⟨_,.none⟩
 |bl b=>rw[r.bl gk]at ru;cases ru;exact⟨_,.bool b⟩
 |int i=>rw[r.int gk]at ru;obtain⟨t,rfl⟩:=ru;exact⟨_,.int i t⟩
 |str x=>rw[r.str gk]at ru;obtain⟨t,rfl⟩:=ru;exact⟨_,.str x t⟩
 |tup ds=>obtain⟨a,xs,rfl,sq,rs⟩:=r.tup gk;cases ru;obtain⟨its,rv,pl,_⟩:=I.tuple sq;obtain⟨o,ho,hc,n,hd⟩:=pl;obtain⟨as,h⟩:=Fg (k:=k) (fun d v u h1 h2 h3=>ih d v u h1 h2.rb h3) ds xs its (sN.mp hs) rs rv;refine⟨as,?_⟩;unfold bV;exact .tuple ho hc hd (by simpa using h)
 |lst ds=>obtain⟨a,xs,rfl,sq,rs⟩:=r.lst gk;cases ru;obtain⟨its,rv,pl,_⟩:=I.list sq;obtain⟨o,ho,hc,n,hd⟩:=pl.isList;obtain⟨as,h⟩:=Fg (k:=k) (fun d v u h1 h2 h3=>ih d v u h1 h2.rb h3) ds xs its (oO.mp hs) rs rv;refine⟨a::as,?_⟩;unfold bV;exact .list ho hc hd (by simpa using h)
 |dic _=>unfold dD at hs;exact hs.elim
 |obj _ _=>unfold dD at hs;exact hs.elim
theorem xR{k:Nat}(ih:∀d,dD k d->Rh (bV d)=true/\RA (bV d)<=k):∀ds:List D,(∀d∈ds,dD k d)->UO (zc5 ds)=true/\Vl (zc5 ds)<=k
|[],_=>by unfold zc5 UO Vl;exact⟨rfl,QU _⟩
|d::ds,h=>by obtain⟨a1,a2⟩:=ih d (h d k_);obtain⟨b1,b2⟩:=xR ih ds fun x hx=>h x (m_ _ hx);unfold zc5 UO Vl;rw[a1,b1];exact⟨rfl,Nat.max_le.mpr ⟨a2,b2⟩⟩
theorem JY:∀(k:Nat)(d:D),dD k d->Rh (bV d)=true/\RA (bV d)<=k:=by
 intro k
 induction k with
|zero=>intro d hs;cases d with
 |non=>unfold bV Rh RA;exact⟨rfl,QU _⟩
 |bl b=>unfold bV Rh RA;exact⟨rfl,QU _⟩
 |int i=>unfold bV Rh RA;exact⟨rfl,QU _⟩
 |str x=>unfold dD at hs;unfold bV Rh RA;exact⟨hs,QU _⟩
 |tup _=>unfold dD at hs;exact hs.elim
 |lst _=>unfold dD at hs;exact hs.elim
 |dic _=>unfold dD at hs;exact hs.elim
 |obj _ _=>unfold dD at hs;exact hs.elim
|succ k ih=>intro d hs;cases d with
 |non=>unfold bV Rh RA;exact⟨rfl,QU _⟩
 |bl b=>unfold bV Rh RA;exact⟨rfl,QU _⟩
 |int i=>unfold bV Rh RA;exact⟨rfl,QU _⟩
 |str x=>unfold dD at hs;unfold bV Rh RA;exact⟨hs,QU _⟩
 |tup ds=>obtain⟨b1,b2⟩:=xR ih ds (sN.mp hs);unfold bV Rh RA;exact⟨b1,Wv b2⟩
 |lst ds=>obtain⟨b1,b2⟩:=xR ih ds (oO.mp hs);unfold bV Rh RA;exact⟨b1,Wv b2⟩
 |dic _=>unfold dD at hs;exact hs.elim
 |obj _ _=>unfold dD at hs;exact hs.elim
theorem tM{d:D}(h:dD 60 d):Yf (bV d)=true:=by obtain⟨a,b⟩:=JY 60 d h;unfold Yf;rw[a,decide_eq_true (QI b (by decide))];rfl
end
section
variable{X:Cx}{g:GE}{m mb:List Md}{e a b o c:Expr}{f fa fb fc:FE}{pos pos':Pos}
def n8(a b:D):Bool:=dX a&&dX b&&lp (hZ a) (hZ b)
open Classical in
def ji(a b:D):Option Bool:=if n8 a b=true then some (fZ a b)else if dD 60 a/\dD 60 b then some (mv a b)else none
def eqD(a b:D):Option D:=(ji a b).map .bl
def neD(a b:D):Option D:=(ji a b).map fun c=>.bl (! c)
theorem yH{a b:D}(h:n8 a b=false)(h1:dD 60 a)(h2:dD 60 b):ji a b=some (mv a b):=by unfold ji;rw[if_neg (by rw[h];exact i_),if_pos ⟨h1,h2⟩]
theorem yI{a b:D}(h:n8 a b=true):ji a b=some (fZ a b):=by unfold ji;rw[if_pos h]
@[simp] theorem eqB_int(a b:Int):ji (.int a) (.int b)=some (a==b):=yI rfl
@[simp] theorem eqB_str(a b:Str):ji (.str a) (.str b)=some (a==b):=yI rfl
@[simp] theorem eqB_non_int(b:Int):ji .non (.int b)=some false:=yI rfl
theorem Ea{a b:D}(h:lp (hZ a) (hZ b)=true)(fa:dX a=true)(fb:dX b=true):decide (hZ a=hZ b)=fZ a b:=by
 cases a <;> cases b <;> first
  |exact absurd (show false=true from fa) i_
  |exact absurd (show false=true from fb) i_
  |exact absurd (show false=true from h) i_
  |exact xM
  |exact wT
  |exact xN
  |rfl
  |simp[hZ,fZ,jh]
def sI(K:W.Frag)(neg:Bool):R2:=fun x y H Q=>∃(G:GH)(d1 d2:D),bZ K G H/\RB K G H x d1/\RB K G H y d2/\dD 60 d1/\dD 60 d2/\Q (.bl (if neg then ! mv d1 d2 else mv d1 d2)) H
theorem Ff(hu:X.A.units+64<R6):cV X (QG .Eq) (sI X.K false):=by intro pz s σ H x y v u Q I rx ry h;obtain⟨G,d1,d2,gk,r1,r2,s1,s2,q⟩:=h;obtain⟨as,h1⟩:=sU I gk 60 d1 x v s1 r1 rx;obtain⟨bs,h2⟩:=sU I gk 60 d2 y u s2 r2 ry;exact SeqAt.compareEq_shaped h1 h2 (tM s1) (tM s2) hu ⟨.bl _,H,I,rfl,q⟩
theorem Ol(hu:X.A.units+64<R6):cV X (QG .NotEq) (sI X.K true):=by intro pz s σ H x y v u Q I rx ry h;obtain⟨G,d1,d2,gk,r1,r2,s1,s2,q⟩:=h;obtain⟨as,h1⟩:=sU I gk 60 d1 x v s1 r1 rx;obtain⟨bs,h2⟩:=sU I gk 60 d2 y u s2 r2 ry;exact SeqAt.compareNe_shaped h1 h2 (tM s1) (tM s2) hu ⟨.bl _,H,I,rfl,q⟩
theorem eq_cases{a b:D}{c:Bool}(h:ji a b=some c):(n8 a b=true/\c=fZ a b)\/(dD 60 a/\dD 60 b/\c=mv a b):=by
 unfold ji at h;split at h
 .rename_i hs;cases h;exact .inl ⟨hs,rfl⟩
 .split at h
  .rename_i hs;cases h;exact .inr ⟨hs.1,hs.2,rfl⟩
  .cases h
theorem BS{K:W.Frag}:fQ K (fun x y H Q=>Gy x y H Q\/sI K false x y H Q) eqD:=by intro G H v1 v2 d1 d2 d Q gk r1 r2 e q;unfold eqD at e;cases ec:ji d1 d2 with
|none=>rw[ec]at e;cases e
|some c=>
  rw[ec]at e;cases e;rcases eq_cases ec with⟨hs,rfl⟩|⟨s1,s2,rfl⟩
  .unfold n8 at hs;rw[J_,J_]at hs;obtain⟨e1,_⟩:=RB.flat r1 gk hs.1.1;obtain⟨e2,_⟩:=RB.flat r2 gk hs.1.2;refine .inl ⟨by rw[e1,e2];exact hs.2,?_⟩;rw[e1,e2,Ea hs.2 hs.1.1 hs.1.2];exact q _ G H (Grow.refl gk) (.scl (.bl _))
  .exact .inr ⟨G,d1,d2,gk,r1,r2,s1,s2,q _ G H (Grow.refl gk) (.scl (.bl _))⟩
theorem GN{K:W.Frag}:fQ K (fun x y H Q=>Gx x y H Q\/sI K true x y H Q) neD:=by intro G H v1 v2 d1 d2 d Q gk r1 r2 e q;unfold neD at e;cases ec:ji d1 d2 with
|none=>rw[ec]at e;cases e
|some c=>
  rw[ec]at e;cases e;rcases eq_cases ec with⟨hs,rfl⟩|⟨s1,s2,rfl⟩
  .unfold n8 at hs;rw[J_,J_]at hs;obtain⟨e1,_⟩:=RB.flat r1 gk hs.1.1;obtain⟨e2,_⟩:=RB.flat r2 gk hs.1.2;refine .inl ⟨by rw[e1,e2];exact hs.2,?_⟩;rw[e1,e2,Ea hs.2 hs.1.1 hs.1.2];exact q _ G H (Grow.refl gk) (.scl (.bl _))
  .exact .inr ⟨G,d1,d2,gk,r1,r2,s1,s2,q _ G H (Grow.refl gk) (.scl (.bl _))⟩
theorem lq(hu:X.A.units+64<R6)(ha:SB X g m a fa)(hb:SB X g m b fb):SE X g m (.Compare a [.Eq] [b] pos) (f2 fa fb eqD):=GZ (cV.or B9 (Ff hu)) BS ha hb (mP _)
theorem eF(hu:X.A.units+64<R6)(ha:SB X g m a fa)(hb:SB X g m b fb):SQ X g m (.Compare a [.Eq] [b] pos) (bW (f2 fa fb eqD)):=lS (cV.or B9 (Ff hu)) BS ha hb (mP _)
theorem nG(hu:X.A.units+64<R6)(ha:SB X g m a fa)(hb:SB X g m b fb):SQ X g m (.Compare a [.NotEq] [b] pos) (bW (f2 fa fb neD)):=lS (cV.or GQ (Ol hu)) GN ha hb (mP _)
def kd(fa fb fc:FE)(k k':D->D->Option D):FE:=fun r=>(fa r).bind fun x=>(fb r).bind fun y=>(dM (k x y)).bind fun z=>(dM (jU z)).bind fun c=>if c=true then(fc r).bind fun w=>dM (k' y w)else .ok (.bl false)
def vX(K:W.Frag):R2:=fun x y H Q=>∃l b xs zs,x=.ref l/\y=.ref b/\c7 K H l xs/\c7 K H b zs/\xs.length+zs.length<=sizeLine/\∀p,H p=none->Q (.ref p) (upd H p (.lst (xs++zs)))
theorem DO:cV X (Ss .Add) (vX X.K):=by
 intro pz s σ H x y v u Q I rx ry h;obtain⟨l,b,xs,zs,rfl,rfl,hH,hB,hz,q⟩:=h;cases rx;cases ry;obtain⟨its,r,pl,_⟩:=I.list hH;obtain⟨its2,r2,pl2,_⟩:=I.list hB;have l1:=r.length;have l2:=r2.length;obtain⟨⟨cls,dd,data,sl⟩,ho,hc,n,hd⟩:=pl.isList;obtain⟨⟨cls2,dd2,data2,sl2⟩,ho2,hc2,n2,hd2⟩:=pl2.isList;simp only at hc hd hc2 hd2;subst hc hd hc2 hd2;have e:its.toArray++its2.toArray=(its++its2).toArray:=by simp
 refine U9 ⟨_,ho,rfl⟩ ⟨_,ho2,rfl⟩ noFill_list_add seq_list_add PySem.F.slot_list_add PySem.F.entry_list_add (PySem.F.args_list_add_2 _ _) (list_addW _ _ its.toArray its2.toArray n n2 dd dd2 sl sl2 (by simp;omega)) ⟨ho,ho2,?_⟩;rw[e];exact⟨.ref _,_,I.lnew (t':=s.toks) (r.append r2) (by rw[L_];omega),rfl,q _ I.fresh⟩
def addA:D->D->Option D
|.int a,.int b=>some (.int (a+b))
|.str a,.str b=>if a.length+b.length<=sizeLine then some (.str (a++b))else none
|.lst a,.lst b=>if a.length+b.length<=sizeLine then some (.lst (a++b))else none
|.tup (x::a),.tup b=>if (x::a).length+b.length<=sizeLine then some (.tup (x::a++b))else none
|_,_=>none
theorem Dk{K:W.Frag}:fQ K (fun x y H Q=>(∃i j,x=.int i/\y=.int j/\Q (.int (i+j)) H)\/(∃i j,x=.str i/\y=.str j/\i.length+j.length<=sizeLine/\Q (.str (i++j)) H)\/vX K x y H Q\/vY K x y H Q) addA:=by
 intro G H v1 v2 d1 d2 d Q gk r1 r2 e q;unfold addA at e;split at e
 .cases e;exact .inl ⟨_,_,r1.int gk,r2.int gk,q _ G H (Grow.refl gk) (.scl (.int _))⟩
 .split at e
  .rename_i hl;cases e;exact .inr (.inl ⟨_,_,r1.str gk,r2.str gk,hl,q _ G H (Grow.refl gk) (.scl (.str _))⟩)
  .cases e
 .split at e
  .rename_i hl;cases e;obtain⟨a,xs,rfl,s1,t1⟩:=r1.lst gk;obtain⟨b,ys,rfl,s2,t2⟩:=r2.lst gk;have l1:=Paired.length t1;have l2:=Paired.length t2;exact .inr (.inr (.inl ⟨a,b,xs,ys,rfl,rfl,s1,s2,by omega,fun p hp=>q _ _ _ (Grow.newF gk hp (.lst (.inl du) (Paired.app t1 t2))) (.ref fU)⟩))
  .cases e
 .split at e
  .rename_i x0 a0 b0 hl;cases e;rcases r1 with r1|⟨a',_,oo⟩
   .obtain⟨a,xs,rfl,s1,t1⟩:=r1.tup gk;obtain⟨b,ys,rfl,s2,t2⟩:=r2.tup gk;have l1:=Paired.length t1;have l2:=Paired.length t2;refine .inr (.inr (.inr ⟨a,b,xs,ys,rfl,rfl,s1,s2,?_,by omega,fun hy=>?_,fun _ p hp=>q _ _ _ (Grow.newF gk hp (.tup (.inl du) (Paired.app t1 t2))) (.ref fU)⟩))
    .rintro rfl
     cases t1
    .subst hy;cases t2;refine q _ G H (Grow.refl gk) ?_;rw[QX];exact r1
   .cases oo.ob
  .cases e
 .cases e
theorem gG(ha:SB X g m a fa)(hb:SB X g m b fb):SE X g m (.BinOp a .Add b pos) (f2 fa fb addA):=mE (cV.or CL (cV.or FC (cV.or DO DP))) Dk ha hb
end
end DL
end
namespace DL
open PySem PySem.Spec PyProof.Rows L2
structure DefAt(K:W.Frag)(mg:Str->Option a_)(x:Str)(st:Stmt):Prop where
 ex:∃f fd,mg x=some (.ref f)/\Fun K x x st f fd
structure Callee(P:A_)(w:M_)(K:W.Frag)(mg:Str->Option a_)(base:Heap)(x:Str)(ps:List Str)(ds:List a_)(k:Nat)(ro:Bool)(ms:List Md)(F:List D->Res D):Prop where
 ex:∃f fd,mg x=some (.ref f)/\W.keepIn K (.ref f)=true/\ik K fd ps ds/\FnOk P w K mg base dN k f fd ps (kr K ro ms F)
section
variable{P:A_}{w:M_}{K:W.Frag}{mg:Str->Option a_}{base:Heap}
theorem Jy{x:Str}{st:Stmt}{N ps:List Str}{k:Nat}{ro:Bool}{ms:List Md}{fs:FS}{m':List Md}(A:DefAt K mg x st)(S:FnScope N ps (aM st))(hms:ms.length=ps.length)(hb:∀(kV doc pm:a_)(an:Option Addr)(cdv ct:a_)(us:List a_),us.length=ps.length->Tk (W.fnOf x x (bS st) (aW st) (aM st) .none kV doc pm an cdv ct) ⟨us,[]⟩=pure (ps.zip us))(hbody:∀(f:Addr)(cdv:a_)(A:K_)(outer:List Env)(s:d_)(H:Hp)(g:GE)(E:XK),Room k (A.deeper (Sj x (aM st) s.heap.objs.size f cdv)) ->fP (cX dN P w K mg base N x (aM st) f cdv A outer s H E).nox g ro [] (i4 N.length ms) (aW st) fs m'):Callee P w K mg base x ps [] (k+1) ro ms fun ds=>bP ro (fs (cO N.length ds)):=by obtain⟨f,fd,h1,F⟩:=A.ex;exact⟨f,fd,h1,F.kp,F.binds hb,Cz F S hms (hbody f)⟩
structure DefAtD(K:W.Frag)(mg:Str->Option a_)(x:Str)(st:Stmt)(dds:List a_):Prop where
 ex:∃(f T:Addr)(o:Obj)(n:Nat)(oc:a_)(od:Option Addr)(kV doc pm:a_)(an:Option Addr)(cdv ct:a_)(osl:Array (Option a_)),mg x=some (.ref f)/\K.lookup T=some o/\o.data=.seq dds.toArray n/\K.lookup f=some ⟨oc,od,.func (W.fnOf x x (bS st) (aW st) (aM st) (.ref T) kV doc pm an cdv ct),osl⟩/\W.codeIn K cdv x=true/\W.keepIn K (.ref f)=true
theorem m6{x:Str}{st:Stmt}{N ps:List Str}{k:Nat}{ro:Bool}{ms:List Md}{fs:FS}{m':List Md}{dds ds:List a_}(A:DefAtD K mg x st dds)(S:FnScope N ps (aM st))(hms:ms.length=ps.length)(nn:Nat)(hn:nn+ds.length=ps.length)(hb:∀(T:Addr)(kV doc pm:a_)(an:Option Addr)(cdv ct:a_)(us:List a_),us.length=nn->∃kk:Option (Array a_)->Sem (List (Str×a_)),Tk (W.fnOf x x (bS st) (aW st) (aM st) (.ref T) kV doc pm an cdv ct) ⟨us,[]⟩=Ww (.ref T) >>= kk/\kk (some dds.toArray)=pure (ps.zip (us++ds)))(hbody:∀(f:Addr)(cdv:a_)(A:K_)(outer:List Env)(s:d_)(H:Hp)(g:GE)(E:XK),Room k (A.deeper (Sj x (aM st) s.heap.objs.size f cdv)) ->fP (cX dN P w K mg base N x (aM st) f cdv A outer s H E).nox g ro [] (i4 N.length ms) (aW st) fs m'):Callee P w K mg base x ps ds (k+1) ro ms fun zs=>bP ro (fs (cO N.length zs)):=by
 obtain⟨f,T,o,n,oc,od,kV,doc,pm,an,cdv,ct,osl,h1,hT,hd,lk,hcd,kp⟩:=A.ex;refine⟨f,W.fnOf x x (bS st) (aW st) (aM st) (.ref T) kV doc pm an cdv ct,h1,kp,fun s us KX hl=>?_,?_⟩
 .obtain⟨kk,e1,e2⟩:=hb T kV doc pm an cdv ct us (by rw[L_]at hl;omega);exact VM rfl (KX _ _ hT) hd e1 e2
 .have hpl:ps.length<=N.length:=by have:=congrArg Tw S.pre;rw[QM]at this;omega
  refine rO lk hcd S (fun vs H Q E ⟨G,ds,gk,rs,q⟩=>rs.len.1.trans hms) fun A outer s H vs Q E hr ⟨G,ds,gk,rs,q⟩=>?_;exact⟨_,(hbody f cdv A outer s H ⟨G,H,fun _=>none⟩ E hr).2.nox,cO N.length ds,G,qd gk rs (by omega),yE q⟩
end
section
variable{X:Cx}{g:GE}{m:List Md}{e:Expr}{es:List Expr}{fl:aS->Res (List D)}{k:Nat}{ps:List Str}{F:List D->Res D}{dvs:List V}{ds:List a_}{dds:List D}{x:Str}{p pos:Pos}{i:Nat}{ms ms':List Md}
theorem pP(c:Callee X.prog X.w X.K X.mg X.base x ps ds k false ms' F)(hr:Room k X.A)(ha:jX X g m (e::es) ms fl)(hms:ms'=ms++y_ dds.length .sh:=by rfl)(hg:Gl X x:=by rfl)(hd:aU dvs ds:=by exact .nil)(hsc:Paired Scl dvs dds:=by exact .nil)(hdb:(x==("__debug__" : Str))=false:=by decide)(he:h_ (e::es) X.env=(false,eval e X.env)::h_ es X.env:=by rfl)(hpl:(backTo pos (h_ es X.env)).any (·.1)=false:=by rfl):SE X g m (.Call (.Name x p) (e::es) [] pos) (bX fl dds F):=by subst hms;obtain⟨f,fd,h1,h2,h3,h4⟩:=c.ex;exact Ja h4 hr hg h1 h2 h3 hd hsc ha hdb he hpl
theorem v_(i:Nat)(hm:m[i]? = some .sh:=by rfl)(hN:X.N[i]? = some x:=by rfl)(hv:jC X.env.scope x:=by first|exact Or.inl rfl|exact Or.inr (Or.inl rfl)|exact Or.inr (Or.inr rfl))(hd:(x==("__debug__" : Str))=false:=by decide)(hcd:(x==("__classdict__" : Str))=false:=by decide):SE X g m (.Name x p) fun r=>gS r i:=Hb i hm hN hv hd hcd
theorem aO(i:Nat)(hm:i<m.length:=by decide)(hN:X.N[i]? = some x:=by rfl)(hv:jC X.env.scope x:=by first|exact Or.inl rfl|exact Or.inr (Or.inl rfl)|exact Or.inr (Or.inr rfl))(hd:(x==("__debug__" : Str))=false:=by decide)(hcd:(x==("__classdict__" : Str))=false:=by decide):SB X g m (.Name x p) fun r=>gS r i:=JX i hm hN hv hd hcd
end
def Dr(osc:Sz)(ON:List Str)(sc:Sz)(N':List Str)(nl:Nat)(cap:List Nat):Bool:=decide (sc.kind=.function)&&sc.names.all (fun y=>decide (y.2≠.cell))&&sc.names.all (fun y=>decide (y.2≠.local) || decide (sc.names.lookup y.1=some .local)) &&
 sc.names.all (fun y=>decide (y.2≠.free) || (decide (osc.names.lookup y.1=some .cell) || decide (osc.names.lookup y.1=some .free)))&&decide (N'.length=nl+cap.length) &&
 (C_ cap.length).all fun j=>match N'[nl+j]?,ON[cap.getD j 0]? with
 |some x,some y=>decide (x=y)&&decide (sc.names.lookup x=some .free)
 |_,_=>false
theorem iX{X:Cx}{osc:Sz}{ON:List Str}{sc:Sz}{N':List Str}{nl:Nat}{cap:List Nat}(h1:X.env.scope=osc)(h2:X.N=ON)(h:Dr osc ON sc N' nl cap=true):CompSc X sc N' nl cap:=by subst h1 h2;unfold Dr at h;simp only[J_,RL,decide_eq_true_eq,Bool.or_eq_true]at h;obtain⟨⟨⟨⟨⟨a1,a2⟩,a3⟩,a4⟩,a5⟩,a6⟩:=h;refine⟨a1,a2,fun y hy hl=>(a3 y hy).resolve_left fun z=>z hl,fun y hy hf=>(a4 y hy).resolve_left fun z=>z hf,a5,fun j hj=>?_⟩;have h6:=a6 j (QJ.mpr hj);cases e1:N'[nl+j]? with
|none=>rw[e1]at h6;cases h6
|some x=>cases e2:X.N[cap.getD j 0]? with
 |none=>rw[e1,e2]at h6;cases h6
 |some y=>rw[e1,e2]at h6;simp only[J_,decide_eq_true_eq]at h6;exact⟨x,rfl,by rw[h6.1],h6.2⟩
section
variable{X:Cx}{g:GE}{m mb:List Md}{e a b c:Expr}{f fa fb fc:FE}{pos pos':Pos}
theorem Fy{R R':R2}{k k':D->D->Option D}(ho:fQ X.K R k)(ho':fQ X.K R' k'){σ:L2.St}{H:Hp}{Q:VK}(h:tE X g m (kd fa fb fc k k') σ H Q):xC R R' (tB X g m fa) (tB X g m fb) (tB X g m fc) σ H Q:=by obtain⟨r,G,si,q⟩:=h;refine nE si q fun d1 d2 v1 v2 G2 H2 w r1 r2 q2=>?_;obtain⟨z,ez,q3⟩:=dZ (c6 q2);obtain⟨cc,ec,q4⟩:=dZ (c6 q3);refine ho G2 H2 v1 v2 d1 d2 z _ w.ok r1 r2 ez fun v G3 H3 w3 rv=>?_;cases z with
|bl b'=>cases ec;refine⟨_,rv.bl w3.ok,?_⟩;cases cc with
 |false=>rw[if_neg i_]at q4 ⊢;exact q4 _ G3 H3 (w.trans w3) (.scl (.bl _))
 |true=>rw[if_pos rfl]at q4 ⊢;refine⟨r,G3,(si.grow w).grow w3,iE (c6 q4) (w.trans w3) fun d3 q5 v3 G4 H4 w4 r3=>?_⟩;obtain⟨d,e,q6⟩:=dZ q5;exact ho' G4 H4 v2 v3 d2 d3 d Q w4.ok ((r2.mono w3).mono w4) r3 e fun v G' H' w' z=>q6 v G' H' (((w.trans w3).trans w4).trans w') z
|_=>cases ec
theorem LC{σ:L2.St}{H:Hp}{Q:Bool->Hp->Prop}(h:tQ X g m (bW f) σ H Q):tE X g m f σ H fun x H'=>∃k,x=.bl k/\Q k H':=by obtain⟨r,G,si,q⟩:=h;refine⟨r,G,si,cY (c6 q) fun d q1 v G' H' w rv=>?_⟩;obtain⟨b,e,q2⟩:=dZ q1;cases d with
|bl b'=>cases e;exact⟨_,rv.bl w.ok,q2 G' H' w⟩
|_=>cases e
theorem MK{op op':WM}{R R':R2}{k k':D->D->Option D}(hr:cV X (QG op) R)(hr':cV X (QG op') R')(ho:fQ X.K R k)(ho':fQ X.K R' k')(ha:SB X g m a fa)(hb:SB X g m b fb)(hc:SB X g m c fc)(hm:Wq [op,op'] [b,c]=false:=by with_unfolding_all rfl):SE X g m (.Compare a [op,op'] [b,c] pos) (kd fa fb fc k k'):=PE.imp (M9 hr hr' ha hb hc hm) fun σ H Q h=>Fy ho ho' h
theorem MC{op op':WM}{R R':R2}{k k':D->D->Option D}(hr:cV X (QG op) R)(hr':cV X (QG op') R')(ho:fQ X.K R k)(ho':fQ X.K R' k')(ha:SB X g m a fa)(hb:SB X g m b fb)(hc:SB X g m c fc)(hm:Wq [op,op'] [b,c]=false:=by with_unfolding_all rfl):SQ X g m (.Compare a [op,op'] [b,c] pos) (bW (kd fa fb fc k k')):=PT.imp (Nl hr hr' ha hb hc hm) fun σ H Q h=>Fy ho ho' (LC h)
theorem B8{K:W.Frag}:fQ K (kt fun i j=>V.bl (decide (i<j))) ku:=pY fun _ _=>.bl _
theorem Cg{K:W.Frag}:fQ K (kt fun i j=>V.bl (decide (i<=j))) rA:=pY fun _ _=>.bl _
end
theorem d9{K:W.Frag}{h:Heap}{mg:Str->Option a_}{x:Str}{st:Stmt}(KX:K.In h)(G:h.Ns N_ mg){f:Addr}{oc:a_}{od an:Option Addr}{osl:Array (Option a_)}{kV doc pm cdv ct:a_}(a:W.nsIn K N_ x=some (some (.ref f)))(l:K.lookup f=some ⟨oc,od,.func (W.fnOf x x (bS st) (aW st) (aM st) .none kV doc pm an cdv ct),osl⟩)(c:W.codeIn K cdv x=true)(k:W.keepIn K (.ref f)=true):DefAt K mg x st:=⟨f,_,W.mg_of KX G a,iO l c k⟩
theorem j4{K:W.Frag}{h:Heap}{mg:Str->Option a_}{x:Str}{st:Stmt}{dds:List a_}(KX:K.In h)(G:h.Ns N_ mg){f T:Addr}{oc tc:a_}{od an td:Option Addr}{osl tsl:Array (Option a_)}{n:Nat}{kV doc pm cdv ct:a_}(a:W.nsIn K N_ x=some (some (.ref f)))(l:K.lookup f=some ⟨oc,od,.func (W.fnOf x x (bS st) (aW st) (aM st) (.ref T) kV doc pm an cdv ct),osl⟩)(t:K.lookup T=some ⟨tc,td,.seq dds.toArray n,tsl⟩)(c:W.codeIn K cdv x=true)(k:W.keepIn K (.ref f)=true):DefAtD K mg x st dds:=⟨f,T,_,n,oc,od,kV,doc,pm,an,cdv,ct,osl,W.mg_of KX G a,t,rfl,l,c,k⟩
theorem Hj{P:A_}{w:M_}{K:W.Frag}{mg:Str->Option a_}{x p:Str}{st:Stmt}{k:Nat}{F:List D->Res D}{fa:Addr}(hfa:mg x=some (.ref fa))(A:DefAt K mg x st)(hb:∀(kV doc pm:a_)(an:Option Addr)(cdv ct:a_)(us:List a_),us.length=[p].length->Tk (W.fnOf x x (bS st) (aW st) (aM st) .none kV doc pm an cdv ct) ⟨us,[]⟩=pure ([p].zip us))(C:∀(f:Addr)(fd:Q7),Fun K x x st f fd->∀base:Heap,FnOk P w K mg base dN k f fd [p] (kr K false [.sh] F)):∃fd:Q7,(∀(s:d_)(u:a_),U8 s fd ⟨[u],[]⟩ [(p,u)])/\∀base:Heap,K.In base->base.Ns N_ mg->FnOk P w K mg base dN k fa fd [p] (kr K false [.sh] F):=by obtain⟨f,fd,h1,Fn⟩:=A.ex;rw[hfa]at h1;cases h1;refine⟨fd,fun s u=>?_,fun base _ _=>C fa fd Fn base⟩;obtain⟨oc,od,kV,doc,pm,an,cdv,ct,osl,rfl,lk,hcd⟩:=Fn.ex;exact .of_eq (hb kV doc pm an cdv ct [u] rfl)
theorem Hg{l:W.OpenLaw}{k:Nat}{q:A_}{loose:List Str}{XP:(Str->Option a_)->Heap->Prop}{YP:M_->Heap->Prop}{d:DefRec}{K:Params->W.Frag}{x:Str}{F:List D->Res D}(hn:l.most=some 63)(hdf:d.params.defaults=[])(hr:Room k Vd)(hY:∀(w:M_)(h:Heap),YP w h->(K w.params).In h)(hF:∀ns:List Int,ns.length<=63->F [.lst (ns.map .int)]=.ok (.bl true))(C:∀(w:M_)(mg:Str->Option a_)(fa:Addr)(h:Heap),(K w.params).In h->h.Ns N_ mg->mg d.name=some (.ref fa) ->∃fd:Q7,(∀(s:d_)(u:a_),U8 s fd ⟨[u],[]⟩ [(x,u)])/\∀base:Heap,(K w.params).In base->base.Ns N_ mg->FnOk l.prog w (K w.params) mg base dN k fa fd [x] (kr (K w.params) false [.sh] F)):W.WalkO q loose XP YP l.row.toRowW d [] (fun f vs=>Xe f vs):=by
 refine L2.lg (n:=63) (k:=k) (x:=x) (CX:=fun _=>dN) (sp:=fun w=>kr (K w.params) false [.sh] F) hn (by decide) hdf hr hY C (fun w H a ns hl hO hS=>?_) fun _ _ _ _ _ z=>z;have intsP:∀(l:List Int),Paired Scl (l.map V.int) (l.map D.int):=fun l=>by induction l with
 |nil=>exact .nil
 |cons i l ih=>exact .cons (.int i) ih
 rcases hS with hS|hS
 .refine⟨fun b=>if b=a then some (.lst (ns.map D.int))else none,[.lst (ns.map .int)],fun b d' hb=>?_,.sh (.ref (if_pos rfl)) .nil,?_⟩
  .by_cases e:b=a
   .subst e;have hb':some (D.lst (ns.map D.int))=some d':=(if_pos rfl).symm.trans hb;cases hb';exact .lst hS (Paired.mono (fun _ _ z=>.scl z) (intsP ns))
   .have hb':(none:Option D)=some d':=(if_neg e).symm.trans hb;cases hb'
  .rw[hF ns hl];intro v G' H' w' rv;exact rv.bl w'.ok
 .refine⟨fun _=>none,[.lst (ns.map .int)],fun b d' hb=>(by cases hb),.sh (.kc (.lst (.inr hS) (intsP ns))) .nil,?_⟩;rw[hF ns hl];intro v G' H' w' rv;exact rv.bl w'.ok
section
open AutoSeq1 (wpAny_loadPart')
section
variable{prog:A_}{w:M_}{A:K_}{E:a_->d_->Prop}{s:d_}
theorem Qg{it t:Addr}{i:Nat}{items}{x:a_}{Q:a_->d_->Prop}(hit:s.heap.IsTupleIter it t i)(ht:s.heap.IsTuple t items)(hx:items[i]? = some x)(hQ:∀h',h'.IsTupleIter it t (i+1)->Um it s.heap h'->Q x { s with heap:=h' }):q_ (D_ prog w) A (QV (.ref it)) Q E s:=by
 obtain⟨o,ho,hc,hd⟩:=id hit;obtain⟨ol,hol,_,nl,hdl⟩:=ht;unfold QV;refine b_ (RT (name:=l_ "__next__") hit.typeIs F.slot_tuple_iterator_next
  (Su F.slot_tuple_iterator_next hit.typeIs F.entry_tuple_iterator_next ?_ (F.args_tuple_iterator_next_1 _)))
 show q_ _ _ (Xj (.ref it) 0 >>= _) _ _ s;refine b_ (QQ ho hd (x:=.ref t) rfl ?_);show q_ _ _ (if (Value.ref t==Value.none)=true then _ else _) _ _ s;rw[if_neg (show ¬ ((Value.ref t==Value.none)=true)from i_)];show q_ _ _ (Xj (.ref it) 1 >>= _) _ _ s;refine b_ (QQ ho hd (x:=.int i 0) rfl ?_);show q_ _ _ (Ww (.ref t) >>= _) _ _ s;refine b_ (R_ hol hdl ?_);simp only[Rw,hx];refine b_ (Sv ho hd (by simp) (j_ ⟨x,rfl,j_ (hQ _ ?_ (Ui ..))⟩));exact⟨_,Q4 _ ho (Obj.isFreed_of_fields (V1 hd _)),(Obj.cls_mapFields ..).trans hc,by rw[V1 hd];simp[TD]⟩
theorem Qh{it t:Addr}{i:Nat}{items}{Q:a_->d_->Prop}(hh:A.handled=none)(hit:s.heap.IsTupleIter it t i)(ht:s.heap.IsTuple t items)(hx:items[i]? = none)(hE:∀h' e,Yo it s.heap h'->(∃o,h'.get? e=some o/\o.cls=.type "StopIteration")->E (.ref e) { s with heap:=h' }):q_ (D_ prog w) A (QV (.ref it)) Q E s:=by
 obtain⟨o,ho,hc,hd⟩:=id hit;obtain⟨ol,hol,_,nl,hdl⟩:=ht;unfold QV;refine b_ (RT (name:=l_ "__next__") hit.typeIs F.slot_tuple_iterator_next
  (Su F.slot_tuple_iterator_next hit.typeIs F.entry_tuple_iterator_next ?_ (F.args_tuple_iterator_next_1 _)))
 show q_ _ _ (Xj (.ref it) 0 >>= _) _ _ s;refine b_ (QQ ho hd (x:=.ref t) rfl ?_);show q_ _ _ (if (Value.ref t==Value.none)=true then _ else _) _ _ s;rw[if_neg (show ¬ ((Value.ref t==Value.none)=true)from i_)];show q_ _ _ (Xj (.ref it) 1 >>= _) _ _ s;refine b_ (QQ ho hd (x:=.int i 0) rfl ?_);show q_ _ _ (Ww (.ref t) >>= _) _ _ s;refine b_ (R_ hol hdl ?_);simp only[Rw,hx];refine b_ (Vh (b_ (Sv ho hd (by simp) ?_)));show q_ _ _ (newExc (.type "StopIteration") [] >>= _) _ _ _;refine b_ ?_;simp only[newExc,newTuple];refine b_ (Rx ?_ (by size_fits));refine b_ (m:=firstArgMember _ _) (wpAny_of_eq (a:=Value.none) (by first|rfl|(simp only[firstArgMember];rfl)) ?_);refine Rx ?_ (by size_fits);simp only[raiseNew];refine b_ (wpAny_handled ?_)
 first|rw[show A.in1.handled=none from hh]|rw[hh]
 refine b_ (j_ (wpAny_throw ?_));exact hE _ _ (((Ui ..).extBut.push _).push _) ⟨_,x_ _ rfl,rfl⟩
end
theorem wU{prog:A_}{w:M_}{A:K_}(hh:A.handled=none)(it l:Addr)(hne:l≠it)(items:Array a_):VQ prog w A it [it,l] items.size (fun i v=>items[i]? = some v) (fun i h=>h.IsTupleIter it l i/\h.IsTuple l items) where
 live:=fun _ _ st=>let⟨o,ho,_⟩:=st.1;⟨o,ho⟩
 frame:=fun _ _ _ st hk=>⟨let⟨o,ho,r⟩:=st.1;⟨o,hk it (by simp) o ho,r⟩,let⟨o,ho,r⟩:=st.2;⟨o,hk l (by simp) o ho,r⟩⟩
 item:=fun i s Q E hi st hQ=>by refine Qg st.1 st.2 (x:=items[i]) (by simp[hi]) fun h' hit' hs'=>?_;exact hQ _ h' s.toks (by simp[hi]) ⟨hit',st.2.extBut hs'.extBut hne⟩ hs'
 done:=fun s Q E st hE=>Qh hh st.1 st.2 (by simp) hE
theorem Qf(l:Addr)(items:Array a_)(n:Nat)(dct:Option Addr)(sl:Array (Option a_)) :
  Yn (RE.«enumerate.__new__» ⟨[.type "enumerate",.ref l],[]⟩) (fun _ R s=>s.heap.get? l=some { cls:=.type "tuple",dict:=dct,data:=.seq items n,slots:=sl } /\
   R (.ok (.ret (.ref (s.heap.push { cls:=.type "tuple_iterator",data:=.fields #[.ref l,.int 0 0] }).objs.size)))
    { s with heap:=(s.heap.push { cls:=.type "tuple_iterator",data:=.fields #[.ref l,.int 0 0] }).push { cls:=.type "enumerate",data:=.fields #[.none,.bool false,.ref s.heap.objs.size,TD 0,.none,.none] } }):=
 .of_wp fun prog w A R s h=>by
  obtain⟨hp,g,d,tk,os⟩:=s;obtain⟨hl,h⟩:=h;have hsub:=sub_enumerate;have hL:Ur (SD ⟨hp,g,d,tk,os⟩) l items:=⟨_,hl,rfl,n,rfl⟩
  wp_walk using SM hl
  refine wpAny_stack_any fun st=>j_ ?_;split
  .rename_i c _ _ _ _ _;cases(c==Value.type "enumerate")
   .wp_walk using SM hl,Rr hL
    exact⟨_,rfl,h⟩
   .wp_walk using SM hl,Rr hL
    exact⟨_,rfl,h⟩
  .wp_walk using SM hl,Rr hL
   exact⟨_,rfl,h⟩
section
variable{prog:A_}{w:M_}{A:K_}{E:a_->d_->Prop}{s:d_}
theorem Qd{l:Addr}{items:Array a_}{Q:a_->d_->Prop}(hL:s.heap.IsTuple l items)(h:∀h',IsEnum h' (s.heap.objs.size+1) s.heap.objs.size 0 .none->h'.IsTupleIter s.heap.objs.size l 0->h'.objs.size=s.heap.objs.size+2 ->(∀b o,s.heap.get? b=some o->h'.get? b=some o)->Q (.ref (s.heap.objs.size+1)) { s with heap:=h' }):q_ (D_ prog w) A (call (.type "enumerate") [.ref l]) Q E s:=by
 obtain⟨⟨c,dct,dt,sl⟩,hl,hc,n,hd⟩:=hL;replace hc:c=.type "tuple" := hc;replace hd:dt=.seq items n:=hd;subst hc hd;refine Us F.called_enumerate (by decide) (F.typeCall_enumerate_1 _) (F.newCall_enumerate_1 _) (fun obj=>F.args_object_init_2 obj _) F.entry_enumerate_new
  (Qf l items n dct sl) ⟨hl,?_⟩
 have hz:(s.heap.push { cls:=.type "tuple_iterator",data:=.fields #[.ref l,.int 0 0] }).objs.size=s.heap.objs.size+1:=R9 ..;show _/\_;rw[hz];have he:IsEnum ((s.heap.push { cls:=.type "tuple_iterator",data:=.fields #[.ref l,.int 0 0] }).push
   { cls:=.type "enumerate",data:=.fields #[.none,.bool false,.ref s.heap.objs.size,TD 0,.none,.none] }) (s.heap.objs.size+1) s.heap.objs.size 0 .none:=by
  have:=x_ (s.heap.push { cls:=.type "tuple_iterator",data:=.fields #[.ref l,.int 0 0] })
   (o:={ cls:=.type "enumerate",data:=.fields #[.none,.bool false,.ref s.heap.objs.size,TD 0,.none,.none] }) rfl
  rw[hz]at this;exact this
 refine⟨⟨_,he,rfl⟩,h _ he ⟨_,e_ _ (x_ _ rfl),rfl,rfl⟩ (by rw[R9,hz]) fun b o x=>e_ _ (e_ _ x)⟩
end
theorem yK{X:Cx}{pz:List (Addr×Obj)}{σ:L2.St}{H:Hp}{s:d_}{h':Heap}{ch:List Addr}{T:Addr}{o:HO}{t':Nat}(I:Inv X pz σ H s)(hch:∀b∈ch,eV X pz H b)(k:∀b ob,b∉ch->s.heap.get? b=some ob->h'.get? b=some ob)(hT:s.heap.objs.size<=T)(new:dz X.prog X.w (upd H T o) h' T o):Inv X pz σ (upd H T o) { s with heap:=h',toks:=t' }:=by
 have hTn:H T=none:=I.hok.fresh hT;have trk:∀b u,H b=some u->b∉ch:=fun b u e hb=>by rw[(hch b hb).1]at e;cases e
 have neT:∀b ob,s.heap.get? b=some ob->b≠T:=fun b ob e=>O_ (G_ (s_ e) hT);have keepU:∀b u,H b=some u->upd H T o b=some u:=fun b u e=>by rw[cM (mi e hTn)];exact e
 refine I.step (g':=s.gens) (d':=s.drawn) (ch:=ch) (fun b hb=>?_) (fun b ob _ _ hc e _=>k b ob hc e) (fun b ob _ _ hc e _=>⟨ob.slots,k b ob hc e⟩) (fun b ob hc e n=>by rw[cM (neT b ob e)];exact n)
  (fun b ob hc e=>⟨ob,k b ob hc e⟩) (fun b xs e=>keepU b _ e) (fun b ob u e=>keepU b _ e) (fun b ps e=>⟨#[],by rw[keepU b _ e];simp⟩) (fun m hm=>?_) (fun b u e=>?_) I.bare
 .obtain⟨z0,z1,z2,z3,z4,z5⟩:=hch b hb;exact⟨z3,z1,z4,z5⟩
 .obtain⟨ob,es,ep,ho,r⟩:=hm;exact⟨ob,es,ep,k _ ob (fun hb=>(hch _ hb).2.1 rfl) ho,r⟩
 .by_cases hb:b=T
  .subst hb;rw[du]at e;cases e;exact new
  .rw[cM hb]at e;refine(I.hok b u e).stay (fun c v hc q=>k c v ?_ q) (fun c q=>keepU c _ q) fun c xs q=>keepU c _ q;rcases hc with z|z
   .rw[z];exact trk b u e
   .exact trk c _ z
def nZ(sq:Hp->List V->Prop):It:=⟨fun i H=>∃xs x,sq H xs/\xs[i]? = some x,fun i H x H'=>∃p v,H p=none/\x=.ref p/\H'=upd H p (.tup [.int i,v])/\∀xs,sq H xs->xs[i]? = some v,fun i H=>∃xs,sq H xs/\xs.length=i⟩
theorem DU{P:A_}{w:M_}{H:Hp}{h:Heap}{T:Addr}{i:Nat}{tk:Tok}{x:a_}{v:V}(hT:h.get? T=some { cls:=.type "tuple",data:=.seq #[.int i tk,x] })(r:L2.aY v x):dz P w H h T (.tup [.int i,v]):=⟨by show 2<=sizeLine;decide,[.int i tk,x],.cons ⟨tk,rfl⟩ (.cons r .nil),⟨_,hT,rfl,0,rfl⟩,_,hT,rfl⟩
theorem OI{P:A_}{w:M_}{K:W.Frag}{elts:List Expr}{k:Nat}{pos:Pos}(a it e:Addr)(hei:e≠it):Turn P w K (.Tuple elts k pos) (nZ fun H xs=>c7 K H a xs) [e,it] e (fun i h=>(∃old,IsEnum h e it i old)/\h.IsListIter it a i) where
 mem:=by simp
 obj:=fun i h st b hb=>by
  obtain⟨⟨old,he⟩,o,ho,hc,hd⟩:=st;rcases w_.mp hb with rfl|hb
  .exact⟨_,he,fun v z=>by have z':Data.fields _=Data.cell v:=z;cases z'⟩
  .rw[u_.mp hb];exact⟨o,ho,fun v z=>by rw[hd]at z;cases z⟩
 keep:=fun i h h' st kk=>by obtain⟨⟨old,he⟩,hi⟩:=st;exact⟨⟨old,kk e (by simp) _ he⟩,hi.at fun o q=>kk it (by simp) o q⟩
 item:=by
  intro X hP hw hK hc i pz s σ H E I hf st hg;subst hP hw hK;obtain⟨xs,x,hq,hx⟩:=hg;obtain⟨its,rv,p,hz⟩:=I.list hq;obtain⟨⟨old,he⟩,hi⟩:=st;obtain⟨o1,ho1,hc1,hd1⟩:=id hi;obtain⟨o2,ho2,hc2,_⟩:=id p.isList;have hai:a≠it:=by rintro rfl;rw[ho1]at ho2;cases ho2;rw[hc1]at hc2;exact absurd hc2 (by decide)
  have hea:e≠a:=by rintro rfl;rw[he]at ho2;cases ho2;exact absurd (show Value.type "enumerate" = _ from hc2) (by decide)
  have hlt:i<its.toArray.size:=by have:=(c_.mp hx).1;rw[o_,<-rv.length];exact this
  refine U0 (Xk (A:=X.A.in1) (show X.A.in1.handled=none from I.ok.hd hc) it a hai its.toArray) he ⟨hi,p.isList⟩ hlt hei (by simp[hei,hea]) fun y h' tk hP ho hs' hT hsz hk=>?_;refine⟨_,rfl,UC ho fun h'' he'' hs''=>?_⟩;obtain⟨u,hu,ru⟩:=rv.get hx;have hy:y=u:=by
   have:its[i]? = some y:=by simpa using hP
   rw[hu]at this;exact(z_ this).symm
  subst hy;have hTe:s.heap.objs.size≠e:=R1 (s_ he);have hT'':h''.get? s.heap.objs.size=some { cls:=.type "tuple",data:=.seq #[.int i tk,y] }:=(hs''.2 _ hTe).trans hT;refine⟨.ref s.heap.objs.size,upd H s.heap.objs.size (.tup [.int i,x]),yK (s:=s) (h':=h'') (t':=tk+1) (ch:=[e,it]) I hf (fun b ob hb q=>?_) (r_ _) (DU hT'' ru),rfl,⟨_,x,I.hok.fresh (r_ _),rfl,rfl,fun ys hy=>by rw[I.list_inj hy hq];exact hx⟩,⟨⟨_,by simpa using he''⟩,hs'.1.extBut hs''.extBut (Sn hei)⟩,fun b hb=>?_⟩
  .have hbe:b≠e:=fun z=>hb (by simp[z]);exact(hs''.2 b hbe).trans (hk b ob hbe (fun z=>hb (by simp[z])) q)
  .rw[cM ?_]
   .exact(hf b hb).1
   .rcases w_.mp hb with rfl|hb
    .exact O_ (s_ he)
    .rw[u_.mp hb];exact O_ (s_ ho1)
 done:=by
  intro X hP hw hK hc i pz s σ H E I hf st hg;subst hP hw hK;obtain⟨xs,hq,hx⟩:=hg;obtain⟨its,rv,p,hz⟩:=I.list hq;obtain⟨⟨old,he⟩,hi⟩:=st;obtain⟨o1,ho1,hc1,hd1⟩:=id hi;obtain⟨o2,ho2,hc2,_⟩:=id p.isList;have hai:a≠it:=by rintro rfl;rw[ho1]at ho2;cases ho2;rw[hc1]at hc2;exact absurd hc2 (by decide)
  obtain⟨f0,f1,f2,f3,f4,f5⟩:=hf it (by simp);have hn:its.toArray.size=i:=by rw[o_,<-rv.length];exact hx
  refine Vi (Xk (A:=X.A.in1) (show X.A.in1.handled=none from I.ok.hd hc) it a hai its.toArray) he ⟨by rw[hn];exact hi,p.isList⟩ fun h' eb=>⟨rfl,I.turned (t':=s.toks) (fun b o hb q=>eb b o hb q) f0 f1 f3 f4 f5⟩
 self:=fun _ _ _ _ _ st h=>let⟨⟨_,he⟩,_⟩:=st;TQ he h
theorem IsTupleIter.at'{h h':Heap}{a t:Addr}{i:Nat}(x:h.IsTupleIter a t i)(hs:∀o,h.get? a=some o->h'.get? a=some o):h'.IsTupleIter a t i:=let⟨o,ho,r⟩:=x;⟨o,hs o ho,r⟩
theorem OJ{P:A_}{w:M_}{K:W.Frag}{elts:List Expr}{k:Nat}{pos:Pos}(a it e:Addr)(hei:e≠it):Turn P w K (.Tuple elts k pos) (nZ fun H xs=>dQ K H a xs) [e,it] e (fun i h=>(∃old,IsEnum h e it i old)/\h.IsTupleIter it a i) where
 mem:=by simp
 obj:=fun i h st b hb=>by
  obtain⟨⟨old,he⟩,o,ho,hc,hd⟩:=st;rcases w_.mp hb with rfl|hb
  .exact⟨_,he,fun v z=>by have z':Data.fields _=Data.cell v:=z;cases z'⟩
  .rw[u_.mp hb];exact⟨o,ho,fun v z=>by rw[hd]at z;cases z⟩
 keep:=fun i h h' st kk=>by obtain⟨⟨old,he⟩,hi⟩:=st;exact⟨⟨old,kk e (by simp) _ he⟩,IsTupleIter.at' hi fun o q=>kk it (by simp) o q⟩
 item:=by
  intro X hP hw hK hc i pz s σ H E I hf st hg;subst hP hw hK;obtain⟨xs,x,hq,hx⟩:=hg;obtain⟨its,rv,p,hz⟩:=I.tuple hq;obtain⟨⟨old,he⟩,hi⟩:=st;obtain⟨o1,ho1,hc1,hd1⟩:=id hi;obtain⟨o2,ho2,hc2,_⟩:=id p;have hai:a≠it:=by rintro rfl;rw[ho1]at ho2;cases ho2;rw[hc1]at hc2;exact absurd hc2 (by decide)
  have hea:e≠a:=by rintro rfl;rw[he]at ho2;cases ho2;exact absurd (show Value.type "enumerate" = _ from hc2) (by decide)
  have hlt:i<its.toArray.size:=by have:=(c_.mp hx).1;rw[o_,<-rv.length];exact this
  refine U0 (wU (A:=X.A.in1) (show X.A.in1.handled=none from I.ok.hd hc) it a hai its.toArray) he ⟨hi,p⟩ hlt hei (by simp[hei,hea]) fun y h' tk hP ho hs' hT hsz hk=>?_;refine⟨_,rfl,UC ho fun h'' he'' hs''=>?_⟩;obtain⟨u,hu,ru⟩:=rv.get hx;have hy:y=u:=by
   have:its[i]? = some y:=by simpa using hP
   rw[hu]at this;exact(z_ this).symm
  subst hy;have hTe:s.heap.objs.size≠e:=R1 (s_ he);have hT'':h''.get? s.heap.objs.size=some { cls:=.type "tuple",data:=.seq #[.int i tk,y] }:=(hs''.2 _ hTe).trans hT;refine⟨.ref s.heap.objs.size,upd H s.heap.objs.size (.tup [.int i,x]),yK (s:=s) (h':=h'') (t':=tk+1) (ch:=[e,it]) I hf (fun b ob hb q=>?_) (r_ _) (DU hT'' ru),rfl,⟨_,x,I.hok.fresh (r_ _),rfl,rfl,fun ys hy=>by rw[I.tuple_inj hy hq];exact hx⟩,⟨⟨_,by simpa using he''⟩,hs'.1.extBut hs''.extBut (Sn hei)⟩,fun b hb=>?_⟩
  .have hbe:b≠e:=fun z=>hb (by simp[z]);exact(hs''.2 b hbe).trans (hk b ob hbe (fun z=>hb (by simp[z])) q)
  .rw[cM ?_]
   .exact(hf b hb).1
   .rcases w_.mp hb with rfl|hb
    .exact O_ (s_ he)
    .rw[u_.mp hb];exact O_ (s_ ho1)
 done:=by
  intro X hP hw hK hc i pz s σ H E I hf st hg;subst hP hw hK;obtain⟨xs,hq,hx⟩:=hg;obtain⟨its,rv,p,hz⟩:=I.tuple hq;obtain⟨⟨old,he⟩,hi⟩:=st;obtain⟨o1,ho1,hc1,hd1⟩:=id hi;obtain⟨o2,ho2,hc2,_⟩:=id p;have hai:a≠it:=by rintro rfl;rw[ho1]at ho2;cases ho2;rw[hc1]at hc2;exact absurd hc2 (by decide)
  obtain⟨f0,f1,f2,f3,f4,f5⟩:=hf it (by simp);have hn:its.toArray.size=i:=by rw[o_,<-rv.length];exact hx
  refine Vi (wU (A:=X.A.in1) (show X.A.in1.handled=none from I.ok.hd hc) it a hai its.toArray) he ⟨by rw[hn];exact hi,p⟩ fun h' eb=>⟨rfl,I.turned (t':=s.toks) (fun b o hb q=>eb b o hb q) f0 f1 f3 f4 f5⟩
 self:=fun _ _ _ _ _ st h=>let⟨⟨_,he⟩,_⟩:=st;TQ he h
end
def nz:D->Option String
|.non=>some "NoneType"
|.bl _=>some "bool"
|.int _=>some "int"
|.str _=>some "str"
|.tup _=>some "tuple"
|.lst _=>some "list"
|.dic _=>some "dict"
|.obj _ _=>none
def i7(t T:String):Bool:=t==T || (t == "bool" && T == "int")
def jg(T:String)(d:D):Option D:=(nz d).map fun t=>.bl (i7 t T)
def GA(K:W.Frag)(x:V)(H:Hp)(t:String):Prop:=match x with
|.non=>t = "NoneType"
|.bl _=>t = "bool"
|.int _=>t = "int"
|.str _=>t = "str"
|.ref p=>(t = "list"/\∃xs,c7 K H p xs)\/(t = "tuple"/\∃xs,dQ K H p xs)\/(t = "dict"/\∃kvs,Rd H p (.dK kvs))
|_=>False
theorem Kb{K:W.Frag}{G:GH}{H:Hp}{v:V}{d:D}{t:String}(gk:bZ K G H)(h:RB K G H v d)(e:nz d=some t):GA K v H t:=by cases d with
|non=>cases e;rw[h.non gk];rfl
|bl b=>cases e;rw[h.bl gk];rfl
|int i=>cases e;rw[h.int gk];rfl
|str x=>cases e;rw[h.str gk];rfl
|tup ds=>cases e;obtain⟨a,xs,rfl,s,r⟩:=h.tup gk;exact .inr (.inl ⟨rfl,xs,s⟩)
|lst ds=>cases e;obtain⟨a,xs,rfl,s,r⟩:=h.lst gk;exact .inl ⟨rfl,xs,s⟩
|dic ds=>cases e;obtain⟨a,xs,rfl,s,r⟩:=h.dic gk;exact .inr (.inr ⟨rfl,xs,s⟩)
|obj _ _=>cases e
section
variable{X:Cx}{g:GE}{m:List Md}{e a:Expr}{f:FE}{pos p p2:Pos}
theorem Mr:gF X (.builtin "isinstance") (fun xs H Q=>∃x t T b,xs=[x,.ty T]/\GA X.K x H t/\W.kitOne X.K (.type t) (.type T)=some b/\Q (.bl b) H):=by
 intro pz s σ H xs us Q I r h;obtain⟨x,t,T,b,rfl,ty,e,q⟩:=h;obtain⟨u,w',rfl,rx,ry⟩:=sk r;cases ry;have fin:∀tk,EP X pz σ Q (.bool b) { s with toks:=tk }:=fun tk=>⟨.bl b,H,I.tok tk,rfl,q⟩
 cases x with
|non=>cases rx;cases(show t = "NoneType" from ty);exact W.kia_one W.kitx_none I.kIn True.intro e (fun z=>nomatch z) fin
|bl y=>cases rx;cases(show t = "bool" from ty);exact W.kia_one W.kitx_bool I.kIn True.intro e (fun z=>nomatch z) fin
|int i=>obtain⟨t,rfl⟩:=rx;cases ty;exact W.kia_one W.kitx_int I.kIn True.intro e (fun z=>nomatch z) fin
|str i=>obtain⟨t,rfl⟩:=rx;cases ty;exact W.kia_one W.kitx_str I.kIn True.intro e (fun z=>nomatch z) fin
|ref p=>
  cases rx;rcases ty with⟨rfl,xs,hq⟩|⟨rfl,xs,hq⟩|⟨rfl,kvs,hq⟩
  .obtain⟨its,_,pl,_⟩:=I.list hq;obtain⟨o,ho,hc,_⟩:=pl.isList;exact W.kia_one W.kitx_list I.kIn ⟨o,ho,hc⟩ e (fun z=>nomatch z) fin
  .obtain⟨its,_,pl,_⟩:=I.tuple hq;obtain⟨o,ho,hc,_⟩:=pl;exact W.kia_one W.kitx_tuple I.kIn ⟨o,ho,hc⟩ e (fun z=>nomatch z) fin
  .obtain⟨_,_,vs,_,pp⟩:=(show dz X.prog X.w H s.heap p (.dK kvs)from hq.ok I.hok)
   obtain⟨o,es,ep,h1,h2,_⟩:=pp;exact W.kia_one W.kitx_dict I.kIn ⟨o,h1,h2.1⟩ e (fun z=>nomatch z) fin
|_=>exact(show False from ty).elim
theorem se(x:Str)(T:String)(hv:SJ x=some (.type T))(hk:∀(d:D)(t:String),nz d=some t->W.kitOne X.K (.type t) (.type T)=some (i7 t T))(hg:Gl X "isinstance")(hm:X.mg "isinstance" = none)(hgT:Gl X x)(hmT:X.mg x=none)(he:SB X g m e f)(hn:x≠"__name__" := by decide)(hd:(x==("__debug__" : Str))=false:=by decide)(hs1:h_ [e,.Name x p2] X.env=(false,eval e X.env)::h_ [.Name x p2] X.env:=by rfl)(hs2:h_ [.Name x p2] X.env=(false,eval (.Name x p2) X.env)::h_ [] X.env:=by rfl)(hpl:(backTo pos (h_ [.Name x p2] X.env)).any (·.1)=false:=by rfl):SE X g m (.Call (.Name "isinstance" p) [e,.Name x p2] [] pos) (f1 f (jg T)):=by
 refine PE.imp (m9 Mr hg hm (by first|exact Uh|rfl) (iD he (iD (DV (v:=.ty T) hgT hmT hv rfl hn hd) kh hs2) hs1) (by decide) (by decide) hs1 hpl) fun σ H Q ⟨r,G,si,q⟩=>⟨r,G,si,cY (c6 q) fun d q1 v G1 H1 w1 r1=>?_⟩
 obtain⟨d',e',q2⟩:=dZ q1;unfold jg at e';cases et:nz d with
|none=>rw[et]at e';cases e'
|some t=>rw[et]at e';cases e';exact⟨v,t,T,_,rfl,Kb w1.ok r1 et,hk d t et,q2 _ G1 H1 w1 (.scl (.bl _))⟩
end
theorem Fa{d:D}{t:String}(h:nz d=some t){P:String->Prop}(h1:P "NoneType")(h2:P "bool")(h3:P "int")(h4:P "str")(h5:P "tuple")(h6:P "list")(h7:P "dict"):P t:=by cases d <;> cases h <;> assumption
theorem DW(K:W.Frag)(d:D)(t:String)(h:nz d=some t):W.kitOne K (.type t) (.type "int")=some (i7 t "int"):=Fa (P:=fun t=>W.kitOne K (.type t) (.type "int")=some (i7 t "int")) h (by kernel_rfl) (by kernel_rfl) (by kernel_rfl) (by kernel_rfl) (by kernel_rfl) (by kernel_rfl) (by kernel_rfl)
theorem Ek(K:W.Frag)(d:D)(t:String)(h:nz d=some t):W.kitOne K (.type t) (.type "bool")=some (i7 t "bool"):=Fa (P:=fun t=>W.kitOne K (.type t) (.type "bool")=some (i7 t "bool")) h (by kernel_rfl) (by kernel_rfl) (by kernel_rfl) (by kernel_rfl) (by kernel_rfl) (by kernel_rfl) (by kernel_rfl)
section
variable{X:Cx}{g:GE}{m:List Md}{e a b:Expr}{f fa:FE}{pos p pos2 p2:Pos}{es:List Expr}{fl:aS->Res (List D)}
def gu(lo:Int)(n:Nat):List V:=(C_ n).map fun(i:Nat)=>V.int (lo+(i:Int))
theorem IW{K:W.Frag}{G:GH}(lo:Int)(n:Nat):dy K G (gu lo n) (eD lo n):=by
 unfold gu eD
 induction(C_ n)with
|nil=>exact .nil
|cons i l ih=>exact .cons (.scl (.int _)) ih
theorem AE:∀{xs:List V}{us:List a_},xs.length=us.length->(∀(j:Nat) v u,xs[j]? = some v->us[j]? = some u->L2.aY v u)->aU xs us
|[],[],_,_=>.nil
|v::xs,u::us,hl,h=>.cons (h 0 v u rfl rfl) (AE (by simpa using hl) fun j a b e1 e2=>h (j+1) a b (by simpa using e1) (by simpa using e2))
|[],_::_,hl,_=>by simp at hl
|_::_,[],hl,_=>by simp at hl
theorem MF{lo:Int}{n:Nat}{acc:Array a_}(h:ItemsOf (fun i v=>∃t,v=.int (lo+i*1) t) acc n):aU (gu lo n) acc.toList:=by
 refine AE (by simp[gu,h.1]) fun j v u e1 e2=>?_;have hj:j<n:=by have:=(c_.mp e1).1;simpa[gu]using this
 unfold gu at e1;rw[F_,Uk hj]at e1;cases e1;obtain⟨t,rfl⟩:=h.2 j u (by rw[<-SZ];exact e2);exact⟨t,by simp⟩
theorem NJ:gF X (.type "range") (fun xs H Q=>∃j,xs=[.int j]/\∀p,H p=none->Q (.ref p) (upd H p (.rng 0 j))):=by intro pz s σ H xs us Q I r h;obtain⟨j,rfl,q⟩:=h;obtain⟨u,rfl,t,rfl⟩:=jG r;refine call_range_1 ⟨.ref s.heap.objs.size,_,I.laid (o:=.rng 0 j) (fun b o e=>e_ _ e) (r_ _) ⟨_,_,_,x_ _ rfl⟩,rfl,q _ (I.hok.fresh (r_ _))⟩
theorem Ps(hc:X.calm=true):gF X (.type "list") (fun xs H Q=>∃p lo hi,xs=[.ref p]/\H p=some (.rng lo hi)/\(-(2^62)<=lo/\lo<2^62/\-(2^62)<=hi/\hi<2^62)/\(hi-lo).toNat<=sizeLine/\∀l,H l=none->Q (.ref l) (upd H l (.lst (gu lo (hi-lo).toNat)))):=by
 intro pz s σ H xs us Q I r h;obtain⟨p,lo,hi,rfl,hp,⟨h1,h2,h3,h4⟩,hz,q⟩:=h;obtain⟨u,rfl,rx⟩:=jG r;cases rx;obtain⟨t,u,v,ho⟩:=(show dz X.prog X.w H s.heap p (.rng lo hi)from I.hok p _ hp)
 have e2:UX lo hi 1=(((hi-lo).toNat:Nat):Int):=by rw[rangeSize_one];split <;> omega
 refine call_list_range (I.ok.hd hc) (r:=p) (a:=lo) (b:=hi) (c:=1) ho (small_one h1 h2 h3 h4) e2 (by rw[QK]at hz;omega) fun h' tk acc c' kp hS hacc=>?_;refine⟨.ref s.heap.objs.size,_,I.laid (t':=tk) kp (r_ _) (show dz X.prog X.w _ h' _ (.lst (gu lo (hi-lo).toNat))from⟨by unfold gu;rw[p_,Wf];exact hz,acc.toList,c',MF hacc,by rw[Vw];exact hS⟩),rfl,q _ (I.hok.fresh (r_ _))⟩
def lO:List D->Option D
|[.int j]=>if-(2^62)<=j/\j<2^62/\j.toNat<=sizeLine then some (.lst (eD 0 j.toNat))else none
|_=>none
theorem CA{H:Hp}{p l:Addr}{o:HO}(h:upd H p o l=none):H l=none/\l≠p:=by
 by_cases e:l=p
 .subst e;rw[du]at h;cases h
 .rw[cM e]at h;exact⟨h,e⟩
theorem sH(hc:X.calm=true)(hgl:Gl X "list")(hml:X.mg "list" = none)(hg:Gl X "range")(hm:X.mg "range" = none)(ha:i0 X g m [a] fl)(hs:h_ [a] X.env=(false,eval a X.env)::h_ [] X.env:=by rfl)(hs2:h_ [.Call (.Name "range" p2) [a] [] pos2] X.env=(false,eval (.Call (.Name "range" p2) [a] [] pos2) X.env)::h_ [] X.env:=by rfl):SO X g m (.Call (.Name "list" p) [.Call (.Name "range" p2) [a] [] pos2] [] pos) (fC fl lO):=by
 refine PE.imp (qk (Ps hc) hgl hml rfl (iD (qk NJ hg hm Xa ha (by decide) (by decide) hs rfl) kh hs2) (by decide) (by decide) hs2 rfl) fun σ H Q ⟨r,G,si,q⟩=>⟨r,G,si,cY (c6 q) fun ds q1 vs G1 H1 w1 rs=>?_⟩
 obtain⟨d,e,q2⟩:=dZ q1;unfold lO at e;split at e
 .split at e
  .rename_i j hj;cases e;cases rs with
  |cons r1 t=>cases t;refine⟨j,by rw[r1.int w1.ok],fun p hp=>⟨p,0,j,rfl,du,⟨by decide,by decide,hj.1,hj.2.1⟩,by simpa using hj.2.2,fun l hl=>?_⟩⟩;obtain⟨hl1,hl2⟩:=CA hl;have w2:=Grow.new w1.ok hp (.rng 0 j);have w3:=Grow.new w2.ok hl (.lst (gu 0 (j-0).toNat));refine q2 l G1 _ (w1.trans (w2.trans w3)) (w1.back hl1) ⟨w1.ok.isN hl1,.lst du ?_⟩;rw[show j-0=j by omega];exact IW 0 _
  .cases e
 .cases e
end
def GF(K:W.Frag)(r:V->List V->Hp->VK->Prop)(k:D->List D->Option D):Prop:=∀(G:GH)(H:Hp)(v:V)(d:D)(vs:List V)(ds:List D)(d':D)(Q:VK),bZ K G H->RB K G H v d->Paired (RB K G H) vs ds->k d ds=some d' ->(∀v' G' H',Grow K G H G' H'->RG K G' v' d'->Q v' H')->r v vs H Q
def vK(T:String):D->Bool
|.lst _=>T == "list"
|.tup _=>T == "tuple"
|.dic _=>T == "dict"
|.str _=>T == "str"
|.int _=>T == "int"
|_=>false
theorem Kc{K:W.Frag}{G:GH}{H:Hp}{v:V}{d:D}{T:String}(gk:bZ K G H)(h:RB K G H v d)(t:vK T d=true):pB K T v H:=by cases d with
|lst ds=>obtain⟨a,xs,rfl,s,r⟩:=h.lst gk;exact .inl ⟨RK t,xs,s⟩
|tup ds=>
  have e:T = "tuple" := RK t;rcases h with h|⟨a,rfl,o⟩
  .cases h with
  |scl s=>cases s
  |ref q=>cases gk _ _ q with
   |tup r s=>exact .inr (.inl ⟨e,.inr ⟨_,r⟩⟩)
  |kc k=>cases k with
   |tup r s z=>exact .inr (.inl ⟨e,.inl z⟩)
  .cases o.ob
|dic ds=>obtain⟨a,xs,rfl,s,r⟩:=h.dic gk;exact .inr (.inr (.inl ⟨RK t,.inl ⟨xs,s⟩⟩))
|str x=>rw[h.str gk];exact RK t
|int x=>rw[h.int gk];exact RK t
|_=>cases t
def fM(T:String)(fo:FE)(fl:aS->Res (List D))(k:D->List D->Option D):FE:=fun r=>(fo r).bind fun d=>if vK T d=true then(fl r).bind fun ds=>dM (k d ds)else .stuck
section
variable{X:Cx}{g:GE}{m mb:List Md}{e a b o:Expr}{es:List Expr}{f fa fb fo:FE}{fl:aS->Res (List D)}{pos pos' apos cpos:Pos}{ro:Bool}{x name:Str}{T id:String}{R:V->List V->Hp->VK->Prop}{k:D->List D->Option D}
theorem qW(pa:VX T)(slot:Slot T name id)(hty:Wu (.builtin id)=pure (.type "method_descriptor"))(hmt:my X id R)(hk:GF X.K R k)(ho:SB X g m o fo)(ha:i0 X g m (e::es) fl)(hbase:RN o name X.env (eval o X.env)=eval o X.env:=by rfl)(hfew:((backTo cpos (h_ (e::es) X.env)).all (fun x=>! x.1)&&(Vr cpos (T9 [] X.env)).all (fun x=>x.1.isSome)&&decide ((e::es).length+([]:List T5).length+(if ([]:List T5).isEmpty then 0 else 1)<30))=true:=by rfl)(hline:(apos.endLine==cpos.line)=true:=by rfl)(hst:h_ (e::es) X.env=(false,eval e X.env)::h_ es X.env:=by rfl)(hplain:(backTo cpos (h_ es X.env)).any (·.1)=false:=by rfl):SE X g m (.Call (.Attribute o name apos) (e::es) [] cpos) (fM T fo fl k):=by
 refine PE.imp (Cc pa slot hty hmt ho ha hbase hfew hline hst hplain) fun σ H Q ⟨r,G,si,q⟩=>⟨r,G,si,cY (c6 q) fun d q1 v G1 H1 w1 r1=>?_⟩
 by_cases ht:vK T d=true
 .rw[if_pos ht]at q1;refine⟨Kc w1.ok r1 ht,r,G1,si.grow w1,iE (c6 q1) w1 fun ds q2 vs G2 H2 w2 rs=>?_⟩;obtain⟨d',e',q3⟩:=dZ q2;exact hk G2 H2 v d vs ds d' Q w2.ok (r1.mono w2) rs e' fun v' G' H' w' z=>q3 v' G' H' ((w1.trans w2).trans w') z
 .rw[if_neg ht]at q1;exact q1.elim
def lL(x:V):List V->Option Nat
|[]=>none
|y::xs=>if jh y x=true then some 0 else(lL x xs).map (· + 1)
def j7(x:D):List D->Option Nat
|[]=>none
|y::xs=>if fZ y x=true then some 0 else(j7 x xs).map (· + 1)
theorem EF(x:D):∀ds:List D,lL (hZ x) (ds.map hZ)=j7 x ds
|[]=>rfl
|y::ds=>by show(if jh (hZ y) (hZ x)=true then some 0 else(lL (hZ x) (ds.map hZ)).map (· + 1))=if fZ y x=true then some 0 else(j7 x ds).map (· + 1);rw[EF x ds];rfl
theorem Mb{x:V}{xs:List V}{us:List a_}{j:Nat}(h0:aU xs us)(f:xs.all iy=true)(h:lL x xs=some j):∃hj:j<us.length,gI x us[j]=true/\∀i (hi:i<us.length),i<j->gI x us[i]=false:=by induction h0 generalizing j with
|nil=>cases h
|@cons y u xs us r t ih=>
  rw[T6,J_]at f;unfold lL at h;by_cases hy:jh y x=true
  .rw[if_pos hy]at h;cases h;exact⟨Nat.zero_lt_succ _,by show gI x u=true;rw[sC r f.1];exact hy,fun i _ hlt=>absurd hlt (Nat.not_lt_zero _)⟩
  .rw[if_neg hy]at h;cases e:lL x xs with
  |none=>rw[e]at h;cases h
  |some z=>rw[e]at h;cases h;obtain⟨a,b,c⟩:=ih f.2 e;refine⟨Nat.succ_lt_succ a,b,fun i hi hlt=>?_⟩;cases i with
   |zero=>show gI x u=false;rw[sC r f.1];simpa using hy
   |succ i=>exact c i (Vj hi) (Vj hlt)
def Dz(K:W.Frag):V->List V->Hp->VK->Prop:=fun x vs H Q=>∃p xs y j,x=.ref p/\vs=[y]/\c7 K H p xs/\iy y=true/\xs.all iy=true/\lL y xs=some j/\Q (.int j) H
theorem Fd:my X "list.index" (Dz X.K):=by
 intro pz s σ H x vs v us Q I rx rv h;obtain⟨p,xs,y,j,rfl,rfl,hq,fy,fx,e,q⟩:=h;cases rx;obtain⟨u,rfl,ru⟩:=jG rv;obtain⟨its,r,pl,hz⟩:=I.list hq;obtain⟨o,n,ho,hc,hd,hs⟩:=pl;obtain⟨a,b,c⟩:=Mb r fx e;have hl:=r.length;obtain⟨ocls,odict,odata,oslots⟩:=o;simp only at hc hd hs;subst hc hd hs;refine Vb TB ⟨_,ho,rfl⟩ PySem.F.entry_list_index (PySem.F.args_list_index_2 _ _)
  (SeqAt.list_indexAt p its.toArray n none oslots u (gI y) j (by simpa using a) (by rw[QK]at hz;omega) (by simpa using b) (fun i hi hlt=>by simpa using c i (by simpa using hi) hlt)) ⟨ho,fun w hw=>oY ru fy r fx w (by simpa using hw),⟨.int j,H,I.tok _,⟨_,rfl⟩,q⟩⟩
def HJ:D->List D->Option D
|.lst ds,[x]=>if dX x=true/\ds.all dX=true then(j7 x ds).map fun j=>.int j else none
|.tup ds,[x]=>if dX x=true/\ds.all dX=true then(j7 x ds).map fun j=>.int j else none
|_,_=>none
theorem OU{K:W.Frag}{G:GH}{H:Hp}{ds:List D}{xs:List V}{x d':D}{v:V}(gk:bZ K G H)(rs:dy K G xs ds)(rx:RB K G H v x)(e:(if dX x=true/\ds.all dX=true then(j7 x ds).map fun j=>D.int j else none)=some d'):∃j:Nat,d'=.int j/\iy v=true/\xs.all iy=true/\lL v xs=some j:=by
 by_cases hc:dX x=true/\ds.all dX=true
 .rw[if_pos hc]at e;obtain⟨e1,f1⟩:=RB.flat rx gk hc.1;obtain⟨e3,f3⟩:=BW rs gk hc.2;cases ef:j7 x ds with
 |none=>rw[ef]at e;cases e
 |some j=>rw[ef]at e;cases e;exact⟨j,rfl,f1,f3,by rw[e1,e3,EF];exact ef⟩
 .rw[if_neg hc]at e;cases e
def sE(d:D)(ds:List D):Option D:=match d with
|.lst _=>HJ d ds
|_=>none
theorem EY{K:W.Frag}:GF K (Dz K) sE:=by intro G H v d vs ds d' Q gk rv rs e q;cases d with
|lst zs=>cases ds with
 |nil=>cases e
 |cons x t=>cases t with
  |nil=>cases rs with
   |cons r1 rt=>cases rt;obtain⟨a,xs,rfl,s,r⟩:=rv.lst gk;obtain⟨j,rfl,h1,h2,h3⟩:=OU gk r r1 e;exact⟨a,xs,_,j,rfl,rfl,s,h1,h2,h3,q _ G H (Grow.refl gk) (.scl (.int _))⟩
  |cons _ _=>cases e
|_=>cases e
def pT(kvs more:List (bQ×D)):List (bQ×D):=more.foldl (fun acc kv=>eQ acc kv.1 kv.2) kvs
theorem KS{K:W.Frag}{G:GH}{more:List (bQ×V)}{moreD:List (bQ×D)}{ps:List (bQ×V)}{kvs:List (bQ×D)}(hm:gK K G more moreD)(h:gK K G ps kvs):gK K G (lX ps more) (pT kvs moreD):=by induction hm generalizing ps kvs with
|nil=>exact h
|@cons p q m md r t ih=>have e:p.1=q.1:=r.1;show gK K G (lX (dL ps p.1 p.2) _) (pT (eQ kvs q.1 q.2) _);rw[e];exact ih (B1 h r.2)
def DB:V->List V->Hp->VK->Prop:=fun x vs H Q=>∃d o kvs more,x=.ref d/\vs=[.ref o]/\d≠o/\H d=some (.dK kvs)/\Rd H o (.dK more)/\kvs.length+more.length<=sizeLine/\Q .non (upd H d (.dK (lX kvs more)))
theorem zM:my X "dict.update" DB:=by
 intro pz s σ H x vs v us Q I rx rv h;obtain⟨d,o,kvs,more,rfl,rfl,hne,hd,ho,hz,q⟩:=h;cases rx;obtain⟨u,rfl,ru⟩:=jG rv;cases ru;obtain⟨z1,ns1,vs1,r1,dd1⟩:=(show dz X.prog X.w H s.heap d (.dK kvs)from I.hok d _ hd)
 obtain⟨z2,ns2,vs2,r2,dd2⟩:=(show dz X.prog X.w H s.heap o (.dK more)from ho.ok I.hok)
 have l1:=Paired.length r1;have l2:=Paired.length r2;refine call_meetsIn Sl dd1.typeIs PySem.F.entry_dict_update (PySem.F.args_dict_update_2 _ _) (meets_dict_update (hX X.prog X.w) d o hne ns2) ⟨vs1,vs2,dd1,dd2,by omega,fun h' hm1 hm2 hs=>?_⟩;have hlen:(lX kvs more).length<=sizeLine:=QI (F5 more kvs) hz;refine⟨.non,_,I.write (t':=s.toks) (x:=d) (e:=d) (by rw[hd];exact trivial) (.inl rfl) (fun b u hb hu=>(hs.2 b hb).trans hu) (let⟨ob,_,_,e,_⟩:=hm1;⟨ob,e⟩) (show dz X.prog X.w _ h' d (.dK (lX kvs more))from⟨hlen,ns1,_,KV.merge r2 r1,hm1⟩),rfl,q⟩
def updD:D->List D->Option D
|.dic kvs,[.dic more]=>if kvs.length+more.length<=sizeLine then some (.dic (pT kvs more))else none
|_,_=>none
theorem xF{K:W.Frag}:jZ K DB updD:=by
 intro G H a d vs ds d' Q gk ow rs e q;unfold updD at e;split at e
 .split at e
  .rename_i kvs more hl;cases e;cases ow.ob with
  |dic r s=>cases rs with
   |cons r1 t=>
     cases t;have hb:∃b ps,_=V.ref b/\Rd H b (.dK ps)/\gK K G ps more:=r1.dic gk;obtain⟨b,ps,rfl,hb,rb⟩:=hb;have hab:a≠b:=by
      rintro rfl
      cases r1 with
     |scl s=>cases s
     |ref z=>rw[ow.un]at z;cases z
     |kc k=>cases k
     have l1:=Paired.length s;have l2:=Paired.length rb;exact⟨a,b,_,ps,rfl,rfl,hab,r,hb,by omega,q _ (.dic du (KS rb s))⟩
  .cases e
 .cases e
def GY:V->List V->Hp->VK->Prop:=fun x vs H Q=>∃d kvs,x=.ref d/\vs=[]/\Rd H d (.dK kvs)/\∀p,H p=none->Q (.ref p) (upd H p (.ext fun h=>h.IsValuesView p d))
theorem Od:my X "dict.values" GY:=by
 intro pz s σ H x vs v us Q I rx rv h;obtain⟨d,kvs,rfl,rfl,hd,q⟩:=h;cases rx;cases rv;obtain⟨z1,ns1,vs1,r1,dd1⟩:=(show dz X.prog X.w H s.heap d (.dK kvs)from hd.ok I.hok)
 refine call_meetsIn UT dd1.typeIs PySem.F.entry_dict_values (PySem.F.args_dict_values_1 _) (meets_dict_values (hX X.prog X.w) d ns1) ⟨⟨vs1,dd1⟩,?_⟩;refine⟨.ref s.heap.objs.size,_,I.laid (t':=s.toks) (o:=.ext fun h=>h.IsValuesView s.heap.objs.size d) (fun b ob e=>e_ _ e) (r_ _) ?_,rfl,q _ (I.hok.fresh (r_ _))⟩;refine⟨⟨_,x_ _ rfl,rfl,rfl⟩,⟨_,x_ _ rfl⟩,fun h1 h2 hv hk=>?_⟩;obtain⟨ob,e,c⟩:=hv;exact⟨ob,hk ob e,c⟩
theorem PR(hc:X.calm=true):gF X (.type "list") (fun xs H Q=>∃p d kvs,xs=[.ref p]/\H p=some (.ext fun h=>h.IsValuesView p d)/\Rd H d (.dK kvs)/\∀l,H l=none->Q (.ref l) (upd H l (.lst (kvs.map (·.2))))):=by
 intro pz s σ H xs us Q I r h;obtain⟨p,d,kvs,rfl,hp,hd,q⟩:=h;obtain⟨u,rfl,rx⟩:=jG r;cases rx;obtain⟨hv,_,_⟩:=(show dz X.prog X.w H s.heap p (.ext fun h=>h.IsValuesView p d)from I.hok p _ hp)
 obtain⟨z1,ns1,vs1,r1,dd1⟩:=(show dz X.prog X.w H s.heap d (.dK kvs)from hd.ok I.hok)
 obtain⟨ep,hat⟩:=dd1.dictAt;have l1:=Paired.length r1;refine W.kdl_call (W.kdl_values (knd:=hX X.prog X.w) (kvs:=vs1) (ep:=ep)) (I.ok.hd hc) ⟨hv,hat⟩ (by omega) fun h' tk acc c' kp hS hacc=>?_;have hvals:aU (kvs.map (·.2)) acc.toList:=by refine AE (by have h1:=hacc.1;have h2:acc.toList.length=acc.size:=So;rw[p_];omega) fun j v u e1 e2=>?_;obtain⟨k,hk⟩:=hacc.2 j u (by rw[<-SZ];exact e2);rw[F_]at e1;cases e3:kvs[j]? with
 |none=>rw[e3]at e1;cases e1
 |some kv=>rw[e3]at e1;cases e1;obtain⟨kv',e4,e5⟩:=Paired.get r1 hk;rw[e3]at e4;cases e4;exact e5.2
 refine⟨.ref s.heap.objs.size,_,I.laid (t':=tk) kp (r_ _) (show dz X.prog X.w _ h' _ (.lst (kvs.map (·.2)))from⟨by rw[p_];exact z1,acc.toList,c',hvals,by rw[Vw];exact hS⟩),rfl,q _ (I.hok.fresh (r_ _))⟩
def sm:D->Option D
|.dic kvs=>some (.lst (kvs.map (·.2)))
|_=>none
theorem CU{K:W.Frag}{G:GH}:∀{ps:List (bQ×V)}{kvs:List (bQ×D)},gK K G ps kvs->dy K G (ps.map (·.2)) (kvs.map (·.2))
|_,_,.nil=>.nil
|_,_,.cons r t=>.cons r.2 (CU t)
theorem CJ(hc:X.calm=true)(hg:Gl X "list")(hm:X.mg "list" = none)(ho:SB X g m o fo)(hbase:RN o "values" X.env (eval o X.env)=eval o X.env:=by rfl)(hline:(apos.endLine==cpos.line)=true:=by rfl)(hs2:h_ [.Call (.Attribute o "values" apos) [] [] cpos] X.env=(false,eval (.Call (.Attribute o "values" apos) [] [] cpos) X.env)::h_ [] X.env:=by rfl):SO X g m (.Call (.Name "list" pos') [.Call (.Attribute o "values" apos) [] [] cpos] [] pos) (f1 fo sm):=by
 refine PE.imp (qk (PR hc) hg hm rfl (iD (Jm Sx UT PySem.F.type_dict_values Od ho hbase hline) kh hs2) (by decide) (by decide) hs2 rfl) fun σ H Q ⟨r,G,si,q⟩=>⟨r,G,si,cY (c6 q) fun d q1 v G1 H1 w1 r1=>?_⟩
 obtain⟨d',e,q2⟩:=dZ q1;cases d with
|dic kvs=>
  cases e;obtain⟨a,ps,rfl,hs,rs⟩:=r1.dic w1.ok;refine⟨.inr (.inr (.inl ⟨rfl,.inl ⟨ps,hs⟩⟩)),a,ps,rfl,rfl,hs,fun p hp=>⟨p,a,ps,rfl,du,?_,fun l hl=>?_⟩⟩
  .exact Rd.mono hs fun a o e=>xE hp _ _ e
  .obtain⟨hl1,hl2⟩:=CA hl;have w2:=Grow.new w1.ok hp (.ext fun h=>h.IsValuesView p a);have w3:=Grow.new w2.ok hl (.lst (ps.map (·.2)));exact q2 l G1 _ (w1.trans (w2.trans w3)) (w1.back hl1) ⟨w1.ok.isN hl1,.lst du (CU rs)⟩
|_=>cases e
end
def dq:Nat->List D->List D
|_,[]=>[]
|i,d::ds=>.tup [.int i,d]::dq (i+1) ds
theorem yG:∀(i:Nat)(ds:List D),(dq i ds).length=ds.length
|_,[]=>rfl
|i,d::ds=>congrArg (· + 1) (yG (i+1) ds)
theorem D6:∀(i j:Nat)(ds:List D),(dq i ds)[j]? = (ds[j]?).map fun d=>D.tup [.int ((i+j:Nat):Int),d]
|_,_,[]=>by simp[dq]
|i,0,d::ds=>by simp[dq]
|i,j+1,d::ds=>by show(dq (i+1) ds)[j]? = _;rw[D6 (i+1) j ds];simp only[List.getElem?_cons_succ];rw[show i+1+j=i+(j+1)by omega]
def jT(f:FE):FI:=fun r=>(f r).bind fun d=>(dM (dY d)).bind fun ds=>.ok (dq 0 ds)
section
variable{X:Cx}{g:GE}{m:List Md}{e a:Expr}{f:FE}{pos p pos2:Pos}{elts:List Expr}{kk:Nat}
theorem Kx{te:TE}(hg:Gl X "enumerate")(hm:X.mg "enumerate" = none)(he:PE X e te)(hs:h_ [e] X.env=(false,eval e X.env)::h_ [] X.env:=by rfl):PI X (.Tuple elts kk pos2) (.Call (.Name "enumerate" p) [e] [] pos) (fun σ H R=>te σ H fun x H1=>(∃a,x=.ref a/\(∃xs,c7 X.K H1 a xs)/\R (nZ fun H xs=>c7 X.K H a xs) H1)\/∃a,x=.ref a/\(∃xs,dQ X.K H1 a xs)/\R (nZ fun H xs=>dQ X.K H a xs) H1):=by
 intro pz s σ H R I h;refine Call_ (mO I hg hm boot_enumerate (Ru (bU (iD he kh hs pos pz s σ H (fun vs H1=>match vs with
 |[x]=>(∃a,x=.ref a/\(∃xs,c7 X.K H1 a xs)/\R (nZ fun H xs=>c7 X.K H a xs) H1)\/∃a,x=.ref a/\(∃xs,dQ X.K H1 a xs)/\R (nZ fun H xs=>dQ X.K H a xs) H1
 |_=>False) I h) fun us s1 ⟨vs,H1,I1,r1,q1⟩=>?_) hs rfl))
 .cases r1 with
 |nil=>exact q1.elim
 |@cons x u xs us rx rt=>cases rt with
 |cons _ _=>exact q1.elim
 |nil=>
  have fin:∀{h':Heap},h'.objs.size=s1.heap.objs.size+2->(∀b o,s1.heap.get? b=some o->h'.get? b=some o)->∀b∈[s1.heap.objs.size+1,s1.heap.objs.size],eV X pz H1 b:=fun hz kp b hb=>by
   have hge:s1.heap.objs.size<=b:=by
    rcases w_.mp hb with rfl|hb
    .exact Vt _
    .rw[u_.mp hb];exact r_ _
   exact I1.fpOk hge (I1.hok.fresh hge)
  rcases q1 with⟨a,rfl,⟨xs,hq⟩,q⟩|⟨a,rfl,⟨xs,hq⟩,q⟩
  .cases rx;obtain⟨its,rv,pl,hz⟩:=I1.list hq;refine call_enumerate_list pl.isList fun h' he hi hsz kp=>TQ he ?_;exact⟨_,[s1.heap.objs.size+1,s1.heap.objs.size],_,_,H1,rfl,I1.kept (t':=s1.toks) kp,OI a _ _ (R1 (T0 _)),⟨⟨_,he⟩,hi⟩,fin hsz kp,q⟩
  .cases rx;obtain⟨its,rv,pl,hz⟩:=I1.tuple hq;refine Qd (show s1.heap.IsTuple a its.toArray from pl) fun h' he hi hsz kp=>TQ he ?_;exact⟨_,[s1.heap.objs.size+1,s1.heap.objs.size],_,_,H1,rfl,I1.kept (t':=s1.toks) kp,OJ a _ _ (R1 (T0 _)),⟨⟨_,he⟩,hi⟩,fin hsz kp,q⟩
end
theorem DX:∀a b:List Int,HT.dH a b=jQ a b
|[],[]=>rfl
|[],_::_=>rfl
|_::_,[]=>rfl
|x::xs,y::ys=>by rw[HT.fX,jQ,DX xs ys]
inductive TupI(h:Heap):a_->List Int->Prop where
 |mk {a:Addr} {items:Array a_} {ns:List Int}:WL h a items->Tq items.toList ns->TupI h (.ref a) ns
theorem O8:∀(xs ys:List Int),((C_ (min xs.length ys.length)).all (fun j=>decide (xs.getD j 0=ys.getD j 0))&&xs.length==ys.length)=decide (xs=ys):=by
 intro xs ys;rw[P_,J_,RL,beq_iff_eq,decide_eq_true_iff];constructor
 .rintro⟨h1,h2⟩
  refine Wx h2 fun i a b=>?_;have:=h1 i (QJ.mpr (by omega));simp only[decide_eq_true_eq]at this;simpa[E_,a,b]using this
 .rintro rfl
  exact⟨fun i _=>by simp,rfl⟩
theorem LI{A:K_}{s:d_}{p q:a_}{k l:List Int}(hp:TupI s.heap p k)(hq:TupI s.heap q l)(hu:A.units<R6):VU A s p q (decide (k=l)):=by cases hp with
|@mk a ia _ ha ia'=>cases hq with
 |@mk b ib _ hb ib'=>
   by_cases e:a=b
   .subst e;obtain⟨o,h1,h2,n,h3⟩:=ha;obtain⟨o',h1',h2',n',h3'⟩:=hb;rw[h1]at h1';cases h1';rw[h3]at h3';cases h3';have:k=l:=by have z1:=ia';have z2:=ib';exact(Yg z1).symm.trans (Yg z2)
    subst this;rw[decide_eq_true rfl];exact WT _
   .have l1:=ia'.length;have l2:=ib'.length;rw[So]at l1 l2;have key:=SeqAt.RcAt.tuples (A:=A) (s:=s) (e:=fun j=>decide (k.getD j 0=l.getD j 0)) (show s.heap.IsTuple a ia from ha) (show s.heap.IsTuple b ib from hb) hu (fun j h1 h2=>by
     obtain⟨t,e1⟩:=Xl ia' j ia[j] (by rw[SZ];simp[h1]);obtain⟨t',e2⟩:=Xl ib' j ib[j] (by rw[SZ];simp[h2]);rw[e1,e2];have:=Uy (A:=A.in1) (s:=s) (k.getD j 0) t (l.getD j 0) t';have e:(k.getD j 0==l.getD j 0)=decide (k.getD j 0=l.getD j 0):=by rw[P_];simp
     rw[e]at this;exact this)
    rw[l1,l2,O8]at key;exact SeqAt.EqAt.of_refs e key
inductive TupsI(h:Heap):List a_->List (List Int)->Prop where
 |nil:TupsI h [] []
 |cons {p:a_} {k:List Int} {ps:List a_} {ks:List (List Int)}:TupI h p k->TupsI h ps ks->TupsI h (p::ps) (k::ks)
theorem TupsI.length{h:Heap}:∀{ps:List a_}{ks:List (List Int)},TupsI h ps ks->ps.length=ks.length
|_,_,.nil=>rfl
|_,_,.cons _ t=>congrArg (· + 1) t.length
section
variable{prog:A_}{w:M_}{A:K_}{s:d_}
theorem Ia{fin:Bool}{Q:Bool->d_->Prop}(hu:A.units<R6){ps qs:List a_}{ks ls:List (List Int)}{i:Nat}(h1:TupsI s.heap ps ks)(h2:TupsI s.heap qs ls)(h:Q (jf fin ks ls) s):W.KatLex prog w A false fin Q (ps.zip qs) i s:=by induction h1 generalizing qs ls i with
|nil=>cases h2 <;> exact W.kat_nil h
|@cons p k ps ks hp tp ih=>cases h2 with
 |nil=>exact W.kat_nil h
 |@cons q l qs ls hq tq=>
   refine W.kat_cons (LI hp hq hu prog w _ _ ?_);by_cases e:k=l
   .rw[decide_eq_true e];have h':Q (jf fin ks ls) s:=by unfold jf at h;rw[if_pos e]at h;exact h
    exact W.kat_yes (ih tq h')
   .rw[decide_eq_false e];have h':Q (jQ k l) s:=by unfold jf at h;rw[if_neg e]at h;exact h
    refine W.kat_no ?_;rw[W_];refine W.kat_one _ _ ?_;cases hp with
   |mk ha ia=>cases hq with
    |mk hb ib=>refine HT.iK ha hb ia ib hu ?_;rw[DX];exact h'
inductive TupR(h:Heap):a_->List (List Int)->Prop where
 |mk {a:Addr} {items:List a_} {ks:List (List Int)}:WL h a items.toArray->TupsI h items ks->ks≠[]->TupR h (.ref a) ks
theorem LU{p q:a_}{ks ls:List (List Int)}{Q:Bool->d_->Prop}{E:a_->d_->Prop}(hp:TupR s.heap p ks)(hq:TupR s.heap q ls)(hu:A.units<R6)(h:Q (gB ks ls) s):q_ (D_ prog w) A (keyLt' (tuples' false) p q) Q E s:=by cases hp with
|@mk _ items _ ha ta hna=>cases hq with
 |@mk _ items_1 _ hb tb hnb=>
   obtain⟨o,h1,h2,n,h3⟩:=ha;obtain⟨o',h1',h2',n',h3'⟩:=hb;refine W.kat_lt h1 h3 h1' h3' ?_;have e:decide (items.toArray.size<items_1.toArray.size)=decide (ks.length<ls.length):=by rw[o_,o_,ta.length,tb.length]
   rw[e];exact Ia hu (by simpa using ta) (by simpa using tb) h
end
def kb:List D->Option (List Int)
|[]=>some []
|.int i::ds=>(kb ds).map (i::·)
|_=>none
theorem D3{K:W.Frag}{G:GH}{H:Hp}(gk:bZ K G H){ds:List D}{xs:List V}{ns:List Int}(h:dy K G xs ds)(e:kb ds=some ns):xs=ns.map V.int:=by induction h generalizing ns with
|nil=>cases e;rfl
|@cons x d xs ds r t ih=>cases d with
 |int i=>have e':(kb ds).map (i::·)=some ns:=e;cases q:kb ds with
  |none=>rw[q]at e';cases e'
  |some ms=>rw[q]at e';cases e';rw[r.int gk,ih q];rfl
 |_=>cases e
def rD(K:W.Frag)(H:Hp)(x:V)(k:List Int):Prop:=∃b,x=.ref b/\dQ K H b (k.map V.int)
def pE(K:W.Frag)(H:Hp)(x:V)(ks:List (List Int)):Prop:=∃b xs,x=.ref b/\dQ K H b xs/\Paired (rD K H) xs ks/\ks≠[]
def lR{α:Type}(d:α)(ys:List α)(kss:List (List (List Int))):List α:=(j9 ys.length fun i j=>gB (kss.getD i []) (kss.getD j [])).map fun i=>ys.getD i d
theorem dz.isS{P:A_}{w:M_}{H:Hp}{h:Heap}{a:Addr}{o:HO}(x:dz P w H h a o):h.get? a≠none:=by
 have s:∀{u:Obj},h.get? a=some u->h.get? a≠none:=fun e z=>by rw[z]at e;cases e
 cases o with
|lst xs=>obtain⟨_,_,_,_,e⟩:=x;exact s e
|tup xs=>obtain⟨_,_,_,⟨_,e,_⟩,_⟩:=x;exact s e
|dK kvs=>obtain⟨_,_,_,_,o,_,_,e,_⟩:=x;exact s e
|dT kvs=>obtain⟨_,_,_,_,o,_,_,e,_⟩:=x;exact s e
|set S n=>obtain⟨o,_,_,_,e,_⟩:=x;exact s e
|ins C dx fs=>obtain⟨_,_,_,e,_⟩:=x;exact s e
|own y=>obtain⟨_,e⟩:=x;exact s e
|xd fs=>obtain⟨_,⟨_,_,_,e,_⟩,_⟩:=x;exact s e
|rng lo hi=>obtain⟨_,_,_,e⟩:=x;exact s e
|frz ob u=>obtain⟨e,_⟩:=x;exact s e
|tbl ps=>exact s (show h.get? a=some _ from x)
|met f y=>exact s (show h.get? a=some _ from x)
|ext φ=>obtain⟨_,⟨_,e⟩,_⟩:=x;exact s e
section
variable{X:Cx}{pz:List (Addr×Obj)}{σ:L2.St}{H:Hp}{s:d_}
theorem TupI.stay{h h':Heap}{L:Addr}{mm:Str->Option a_}(hL:h.Ns L mm)(k:∀b o,b≠L->h.get? b=some o->h'.get? b=some o){p:a_}{ns:List Int}(x:TupI h p ns):TupI h' p ns:=by cases x with
|mk ht hi=>
  obtain⟨o,h1,h2,n,h3⟩:=ht;refine .mk ⟨o,k _ _ ?_ h1,h2,n,h3⟩ hi
  rintro rfl
  obtain⟨o',es,ep,e,d,_⟩:=hL;rw[h1]at e;cases e;rw[h3]at d;cases d
theorem TupsI.stay{h h':Heap}{L:Addr}{mm:Str->Option a_}(hL:h.Ns L mm)(k:∀b o,b≠L->h.get? b=some o->h'.get? b=some o):∀{ps:List a_}{ks:List (List Int)},TupsI h ps ks->TupsI h' ps ks
|_,_,.nil=>.nil
|_,_,.cons x t=>.cons (x.stay hL k) (t.stay hL k)
theorem TupR.stay{h h':Heap}{L:Addr}{mm:Str->Option a_}(hL:h.Ns L mm)(k:∀b o,b≠L->h.get? b=some o->h'.get? b=some o){p:a_}{ks:List (List Int)}(x:TupR h p ks):TupR h' p ks:=by cases x with
|mk ht hi hn=>
  obtain⟨o,h1,h2,n,h3⟩:=ht;refine .mk ⟨o,k _ _ ?_ h1,h2,n,h3⟩ (hi.stay hL k) hn
  rintro rfl
  obtain⟨o',es,ep,e,d,_⟩:=hL;rw[h1]at e;cases e;rw[h3]at d;cases d
theorem LJ(I:Inv X pz σ H s){x:V}{k:List Int}{u:a_}(h:rD X.K H x k)(r:L2.aY x u):TupI s.heap u k:=by obtain⟨b,rfl,hq⟩:=h;cases r;obtain⟨its,rv,pl,_⟩:=I.tuple hq;exact .mk pl (by simpa using OV rv)
theorem MR(I:Inv X pz σ H s){xs:List V}{ks:List (List Int)}{us:List a_}(h:Paired (rD X.K H) xs ks)(v:aU xs us):TupsI s.heap us ks:=by induction h generalizing us with
|nil=>cases v;exact .nil
|cons h _ ih=>cases v with
 |cons r q=>exact .cons (LJ I h r) (ih q)
theorem LK(I:Inv X pz σ H s){x:V}{ks:List (List Int)}{u:a_}(h:pE X.K H x ks)(r:L2.aY x u):TupR s.heap u ks:=by obtain⟨b,xs,rfl,hq,hp,hn⟩:=h;cases r;obtain⟨its,rv,pl,_⟩:=I.tuple hq;exact .mk pl (MR I hp rv) hn
theorem Fc{ys:List V}{us:List a_}(r:aU ys us):∀(ix:List Nat),(∀i∈ix,i<ys.length)->aU (ix.map fun i=>ys.getD i .non) (ix.map fun i=>us.getD i Value.none)
|[],_=>.nil
|i::ix,h=>by
  refine .cons ?_ (Fc r ix fun j hj=>h j (m_ _ hj));have hi:=h i k_;obtain⟨u,h1,h2⟩:=r.get (i:=i) (x:=ys[i]) (g_ hi);have e1:ys.getD i .non=ys[i]:=by simp[E_,hi]
  have e2:us.getD i Value.none=u:=by rw[E_,h1];rfl
  show L2.aY (ys.getD i .non) (us.getD i Value.none);rw[e1,e2];exact h2
theorem Inv.laidN{D:Addr}{ys:List V}{its:List a_}{c:Nat}{h':Heap}(I:Inv X pz σ H s)(hD:s.heap.get? D=none)(hDL:D≠X.env.locals)(k:∀b o,b≠X.env.locals->s.heap.get? b=some o->h'.get? b=some o)(hns:∀m,s.heap.Ns X.env.locals m->h'.Ns X.env.locals m)(ho:h'.get? D=some { cls:=.type "list",data:=.seq its.toArray c })(rv:aU ys its)(hz:ys.length<=sizeLine)(t':Nat):Inv X pz σ (upd H D (.lst ys)) { s with heap:=h',toks:=t' }:=by
 have hHD:H D=none:=by cases q:H D with
 |none=>rfl
 |some u=>exact absurd hD (dz.isS (I.hok D u q))
 have neD:∀b o,s.heap.get? b=some o->b≠D:=fun b o e z=>by rw[z,hD]at e;cases e
 have keepU:∀b u,H b=some u->upd H D (.lst ys) b=some u:=fun b u e=>by rw[cM (mi e hHD)];exact e
 have trkL:∀b u,H b=some u->b≠X.env.locals:=fun b u e z=>by rw[z,I.free]at e;cases e
 refine I.step (g':=s.gens) (d':=s.drawn) (ch:=[]) (fun b hb=>absurd hb (by simp)) (fun b ob hL _ _ e _=>k b ob hL e) (fun b ob hL _ _ e _=>⟨ob.slots,k b ob hL e⟩) (fun b ob _ e n=>by rw[cM (neD b ob e)];exact n)
  (fun b ob _ e=>?_) (fun b xs e=>keepU b _ e) (fun b ob u e=>keepU b _ e) (fun b ps e=>⟨#[],by rw[keepU b _ e];simp⟩) hns (fun b u e=>?_) I.bare
 .by_cases hb:b=X.env.locals
  .subst hb;obtain⟨m,hn,_⟩:=I.loc;obtain⟨o,_,_,ho',_⟩:=hns m hn;exact⟨o,ho'⟩
  .exact⟨ob,k b ob hb e⟩
 .by_cases hb:b=D
  .subst hb;rw[du]at e;cases e;exact⟨hz,its,c,rv,ho⟩
  .rw[cM hb]at e;refine(I.hok b u e).stay (fun cc v hc q=>k cc v ?_ q) (fun cc q=>keepU cc _ q) fun cc xs q=>keepU cc _ q;rcases hc with z|z
   .rw[z];exact trkL b u e
   .exact trkL cc _ z
theorem DM{h:Heap}{L:Addr}{m m':Str->Option a_}(a:h.Ns L m)(b:h.Ns L m'):m=m':=by obtain⟨o,es,ep,e,d,_,f⟩:=a;obtain⟨o',es',ep',e',d',_,f'⟩:=b;rw[e]at e';cases e';rw[d]at d';cases d';funext x;rw[<-f,<-f']
theorem Ej{h:Heap}:∀{us:List a_}{kss:List (List (List Int))},Paired (fun u ks=>TupR h u ks) us kss->∃fs,W.KatTups h us fs/\fs.length=us.length/\∀f∈fs,∃b o,f=Value.ref b/\h.get? b=some o/\o.cls=.type "tuple"
|_,_,.nil=>⟨[],W.KatTups.nil,rfl,fun f hf=>nomatch hf⟩
|_,_,.cons x t=>by obtain⟨fs,h1,h2,h3⟩:=Ej t;cases x with
 |@mk a items ks ht hi hn=>cases hi with
  |nil=>exact absurd rfl hn
  |@cons p k ps ks hp _=>
    obtain⟨o,e1,e2,n,e3⟩:=ht;refine⟨p::fs,W.KatTups.cons e1 e2 e3 (by simp) h1,by simp[h2],fun f hf=>?_⟩;rcases w_.mp hf with rfl|hf
    .cases hp with
    |mk hb _=>obtain⟨ob,q1,q2,_⟩:=hb;exact⟨_,ob,rfl,q1,q2⟩
    .exact h3 f hf
theorem MQ(I:Inv X pz σ H s){ys:List V}{kss:List (List (List Int))}{us:List a_}(h:Paired (pE X.K H) ys kss)(v:aU ys us):Paired (fun u ks=>TupR s.heap u ks) us kss:=by induction h generalizing us with
|nil=>cases v;exact .nil
|cons h _ ih=>cases v with
 |cons r q=>exact .cons (LK I h r) (ih q)
theorem yX{n:Nat}{c:Nat->Nat->Bool}{i:Nat}(h:i∈j9 n c):i<n:=QJ.mp ((zS n c).mem_iff.mp h)
theorem O9{k:Nat}(hr:Room k X.A):gF X (.builtin "sorted") (fun xs H Q=>∃p ys kss,xs=[.ref p]/\c7 X.K H p ys/\Paired (pE X.K H) ys kss/\ys.length<64/\∀l,H l=none->Q (.ref l) (upd H l (.lst (lR .non ys kss)))):=by
 intro pz s σ H xs us Q I r h;obtain⟨p,ys,kss,rfl,hq,hk,h64,q⟩:=h;obtain⟨u,rfl,rx⟩:=jG r;cases rx;obtain⟨its,rv,pl,hz⟩:=I.list hq;have hl:=rv.length;have hkl:=Paired.length hk;by_cases h2:its.length<2
 .refine PH pl.isList h2 fun h' c D kp hD ho=>?_;have hs:s.heap.get? D=none:=Sg hD;refine⟨.ref D,_,Inv.laidN I hs (R1 (G_ I.lt hD)) (fun b o _ e=>kp b o e) (fun m ⟨o,es,ep,e,z⟩=>⟨o,es,ep,kp _ _ e,z⟩) ho rv (by omega) s.toks,rfl,?_⟩;have e:lR V.non ys kss=ys:=by unfold lR j9;rw[if_pos (by omega)];refine Wx (by simp) fun i a b=>?_;simp[E_,b]
  have:=q D (I.hok.fresh hD);rw[e]at this;exact this
 .obtain⟨mF,F⟩:=I.fr;have trs:=MQ I hk rv;refine W.kat_sorted F (yL (g:=X.base) (h:=s.heap) (L:=X.env.locals)) pl.isList (by omega) (by omega) fun D e1 h' F' N' hlt=>?_;have hDs:s.heap.get? D=none:=by cases z:s.heap.get? D with
  |none=>rfl
  |some o=>have zn:=(N' _ (k_)).2;exact absurd (hlt (D,o) (As zn.1 zn.2 z)) (Ri _)
  have keepN:∀{h2:Heap}{oD:Obj},Fr X.base X.env.locals h2 mF->News X.base X.env.locals h2 ((D,oD)::oP X.base s.heap X.env.locals)->∀b o,b≠X.env.locals->s.heap.get? b=some o->h2.get? b=some o:=fun{h2 oD} F2 N2 b o hb e=>by cases z:X.base.get? b with
  |some o'=>have:=I.bk b o' z;rw[e]at this;cases this;exact F2.keep b o z
  |none=>exact(N2 (b,o) (m_ _ (As hb z e))).1
  have k1:=keepN F' N';have trs':Paired (fun u ks=>TupR h' u ks) its kss:=Paired.mono (fun _ _ x=>x.stay F.ns k1) trs;obtain⟨fs,t1,t2,t3⟩:=Ej trs';refine W.kat_kind (T:=.type "tuple") t1 (by omega) (fun v hv=>?_) (by decide) ?_
  .obtain⟨b,o,rfl,e1,e2⟩:=t3 v hv;rw[<-e2];exact(W.Looks.ld e1).andThen .now
  have hn:0<its.length:=by omega
  refine NE (n:=its.length) (c:=fun i j=>gB (kss.getD i []) (kss.getD j [])) (fun i j C hi hj hC=>?_) (EL hn) ?_
  .have gi:∀i,i<its.length->TupR h' (its.getD i Value.none) (kss.getD i []):=fun i hi=>by
    have hki:i<kss.length:=by omega
    obtain⟨a,ha,hx⟩:=Paired.get trs' (g_ hki);rw[E_,ha,E_,g_ hki];exact hx
   exact LU (gi i hi) (gi j hj) (by have:=hr.un;show X.A.units+1+1<R6;omega) hC
  .refine W.KasFin.intro F' N' (.head fun q hq z=>?_) fun h3 c F3 N3=>?_
   .have:=hlt q hq;rw[z]at this;exact Ri _ this
   .have oD:=(N3 _ k_)
    have hix:∀i∈j9 ys.length (fun i j=>gB (kss.getD i []) (kss.getD j [])),i<ys.length:=fun i hi=>yX hi;have e0:(pR (fun i j=>gB (kss.getD i []) (kss.getD j [])) (W.kas_sort its.length)).toList=j9 ys.length (fun i j=>gB (kss.getD i []) (kss.getD j [])):=by unfold j9;rw[if_neg (by omega),hl]
    rw[e0]at oD;refine⟨.ref D,_,Inv.laidN (t':=_) (its:=(j9 ys.length fun i j=>gB (kss.getD i []) (kss.getD j [])).map fun i=>its.getD i Value.none) I hDs oD.2.1 (keepN F3 N3) (fun m hm=>by rw[DM hm F.ns];exact F3.ns) oD.1 (Fc rv _ hix) ?_,rfl,q D ?_⟩
    .have:=(zS ys.length fun i j=>gB (kss.getD i []) (kss.getD j [])).length_eq;rw[p_,this,Wf];omega
    .cases z:H D with
    |none=>rfl
    |some u=>exact absurd hDs (dz.isS (I.hok D u z))
end
def lW:D->Option (List Int)
|.tup ds=>kb ds
|_=>none
def ka:List D->Option (List (List Int))
|[]=>some []
|d::ds=>(lW d).bind fun k=>(ka ds).map (k::·)
def r6:D->Option (List (List Int))
|.tup (d::ds)=>ka (d::ds)
|_=>none
def l5:List D->Option (List (List (List Int)))
|[]=>some []
|d::ds=>(r6 d).bind fun k=>(l5 ds).map (k::·)
def sj:List D->Option D
|[.lst ds]=>(l5 ds).bind fun kss=>if ds.length<64 then some (.lst (lR .non ds kss))else none
|_=>none
section
variable{K:W.Frag}{G:GH}{H:Hp}
theorem J7(gk:bZ K G H){v:V}{d:D}{k:List Int}(r:RG K G v d)(e:lW d=some k):rD K H v k:=by cases d with
|tup ds=>obtain⟨a,xs,rfl,s,rs⟩:=r.tup gk;have:=D3 gk rs e;subst this;exact⟨a,rfl,s⟩
|_=>cases e
theorem LF(gk:bZ K G H){ds:List D}{xs:List V}{ks:List (List Int)}(h:dy K G xs ds)(e:ka ds=some ks):Paired (rD K H) xs ks:=by induction h generalizing ks with
|nil=>cases e;exact .nil
|@cons x d xs ds r t ih=>have e':(lW d).bind (fun k=>(ka ds).map (k::·))=some ks:=e;cases e1:lW d with
 |none=>rw[e1]at e';cases e'
 |some k=>rw[e1]at e';cases e2:ka ds with
  |none=>rw[e2]at e';cases e'
  |some ks'=>rw[e2]at e';cases e';exact .cons (J7 gk r e1) (ih e2)
theorem MS{d:D}{ds:List D}{ks:List (List Int)}(e:ka (d::ds)=some ks):ks≠[]:=by have e':(lW d).bind (fun k=>(ka ds).map (k::·))=some ks:=e;cases e1:lW d with
|none=>rw[e1]at e';cases e'
|some k=>rw[e1]at e';cases e2:ka ds with
 |none=>rw[e2]at e';cases e'
 |some ks'=>rw[e2]at e';cases e';simp
theorem J8(gk:bZ K G H){v:V}{d:D}{ks:List (List Int)}(r:RG K G v d)(e:r6 d=some ks):pE K H v ks:=by cases d with
|tup ds=>cases ds with
 |nil=>cases e
 |cons d ds=>obtain⟨a,xs,rfl,s,rs⟩:=r.tup gk;exact⟨a,xs,rfl,s,LF gk rs e,MS e⟩
|_=>cases e
theorem LG(gk:bZ K G H){ds:List D}{xs:List V}{ks:List (List (List Int))}(h:dy K G xs ds)(e:l5 ds=some ks):Paired (pE K H) xs ks:=by induction h generalizing ks with
|nil=>cases e;exact .nil
|@cons x d xs ds r t ih=>have e':(r6 d).bind (fun k=>(l5 ds).map (k::·))=some ks:=e;cases e1:r6 d with
 |none=>rw[e1]at e';cases e'
 |some k=>rw[e1]at e';cases e2:l5 ds with
  |none=>rw[e2]at e';cases e'
  |some ks'=>rw[e2]at e';cases e';exact .cons (J8 gk r e1) (ih e2)
theorem EA{xs:List V}{ds:List D}(r:dy K G xs ds):∀(ix:List Nat),(∀i∈ix,i<ds.length)->dy K G (ix.map fun i=>xs.getD i .non) (ix.map fun i=>ds.getD i .non)
|[],_=>.nil
|i::ix,h=>by refine .cons ?_ (EA r ix fun j hj=>h j (m_ _ hj));have hi:=h i k_;obtain⟨u,h1,h2⟩:=Paired.get r (g_ hi);show RG K G (xs.getD i .non) (ds.getD i .non);rw[E_,h1,E_,g_ hi];exact h2
end
section
variable{X:Cx}{g:GE}{m:List Md}{a:Expr}{fl:aS->Res (List D)}{pos p:Pos}{k:Nat}
theorem MW(hr:Room k X.A)(hg:Gl X "sorted")(hm:X.mg "sorted" = none)(ha:i0 X g m [a] fl)(hs:h_ [a] X.env=(false,eval a X.env)::h_ [] X.env:=by rfl):SO X g m (.Call (.Name "sorted" p) [a] [] pos) (fC fl sj):=by
 refine B7 (R:=fun xs H Q=>∃p ys kss,xs=[.ref p]/\c7 X.K H p ys/\Paired (pE X.K H) ys kss/\ys.length<64/\∀l,H l=none->Q (.ref l) (upd H l (.lst (lR .non ys kss)))) ?_ (m9 (O9 hr) hg hm (by first|exact X2|rfl) ha (by decide) (by decide) hs rfl);intro G H vs ds d Q gk rs e q;unfold sj at e;split at e
 .rename_i zs;cases ek:l5 zs with
 |none=>rw[ek]at e;cases e
 |some kss=>
   rw[ek]at e;have e':(if zs.length<64 then some (D.lst (lR .non zs kss))else none)=some d:=e;by_cases h64:zs.length<64
   .rw[if_pos h64]at e';cases e';cases rs with
   |cons r1 t=>cases t;obtain⟨b,xs,rfl,s,r⟩:=r1.lst gk;have hl:=Paired.length r;refine⟨b,xs,kss,rfl,s,LG gk r ek,by omega,fun l hl'=>q l G _ (Grow.new gk hl' _) hl' ⟨gk.isN hl',.lst du ?_⟩⟩;unfold lR;rw[hl];exact EA r _ fun i hi=>yX hi
   .rw[if_neg h64]at e';cases e'
 .cases e
end
end DL
namespace DL
open PySem PyProof.Rows PySem.SeqAt PySem.MeetsSeq PySem.MeetsSeq2 PySem.MeetsSeq3 L2
section
open PySem.AutoSeq1 (wpAny_loadPart')
end
end DL
namespace DL
open PySem PyProof.Rows L2
end DL
namespace DL
open PySem PySem.Spec PyProof.Rows L2
section
variable{X:Cx}{pz:List (Addr×Obj)}{σ:L2.St}{H:Hp}{s:d_}
theorem Inv.keptN{h':Heap}(I:Inv X pz σ H s)(k:∀b o,b≠X.env.locals->s.heap.get? b=some o->h'.get? b=some o)(hns:∀m,s.heap.Ns X.env.locals m->h'.Ns X.env.locals m)(t':Nat):Inv X pz σ H { s with heap:=h',toks:=t' }:=by
 have trkL:∀b u,H b=some u->b≠X.env.locals:=fun b u e z=>by rw[z,I.free]at e;cases e
 refine I.step (g':=s.gens) (d':=s.drawn) (ch:=[]) (fun b hb=>absurd hb (by simp)) (fun b ob hL _ _ e _=>k b ob hL e) (fun b ob hL _ _ e _=>⟨ob.slots,k b ob hL e⟩) (fun b ob _ e n=>n)
  (fun b ob _ e=>?_) (fun b xs e=>e) (fun b ob u e=>e) (fun b ps e=>⟨#[],by rw[e];simp⟩) hns (fun b u e=>?_) I.bare
 .by_cases hb:b=X.env.locals
  .subst hb;obtain⟨m,hn,_⟩:=I.loc;obtain⟨o,_,_,ho',_⟩:=hns m hn;exact⟨o,ho'⟩
  .exact⟨ob,k b ob hb e⟩
 .refine(I.hok b u e).stay (fun cc v hc q=>k cc v ?_ q) (fun cc q=>q) fun cc xs q=>q;rcases hc with z|z
  .rw[z];exact trkL b u e
  .exact trkL cc _ z
theorem Inv.keptF{h':Heap}{mF:Str->Option a_}(I:Inv X pz σ H s)(F:Fr X.base X.env.locals s.heap mF)(F':Fr X.base X.env.locals h' mF)(N':News X.base X.env.locals h' (oP X.base s.heap X.env.locals))(t':Nat):Inv X pz σ H { s with heap:=h',toks:=t' }:=by refine Inv.keptN I (fun b o hb e=>?_) (fun m hm=>by rw[DM hm F.ns];exact F'.ns) t';cases z:X.base.get? b with
|some o'=>have:=I.bk b o' z;rw[e]at this;cases this;exact F'.keep b o z
|none=>exact(N' (b,o) (As hb z e)).1
theorem Mv(hc:X.calm=true):gF X (.builtin "min") (fun xs H Q=>∃i j:Int,xs=[.int i,.int j]/\Q (.int (if j<i then j else i)) H):=by intro pz s σ H xs us Q I r h;obtain⟨i,j,rfl,q⟩:=h;cases r with
|cons r1 r=>cases r with
 |cons r2 r=>cases r;obtain⟨t,rfl⟩:=r1;obtain⟨u,rfl⟩:=r2;obtain⟨mF,F⟩:=I.fr;exact min_two_N (I.ok.hd hc) F (yL (g:=X.base) (h:=s.heap) (L:=X.env.locals)) fun h' tk F' N'=>⟨.int (if j<i then j else i),_,Inv.keptF I F F' N' tk,⟨_,rfl⟩,q⟩
theorem Mu(hc:X.calm=true):gF X (.builtin "max") (fun xs H Q=>∃i j:Int,xs=[.int i,.int j]/\Q (.int (if j>i then j else i)) H):=by intro pz s σ H xs us Q I r h;obtain⟨i,j,rfl,q⟩:=h;cases r with
|cons r1 r=>cases r with
 |cons r2 r=>cases r;obtain⟨t,rfl⟩:=r1;obtain⟨u,rfl⟩:=r2;obtain⟨mF,F⟩:=I.fr;exact max_two_N (I.ok.hd hc) F (yL (g:=X.base) (h:=s.heap) (L:=X.env.locals)) fun h' tk F' N'=>⟨.int (if j>i then j else i),_,Inv.keptF I F F' N' tk,⟨_,rfl⟩,q⟩
end
def minD:List D->Option D
|[.int i,.int j]=>some (.int (if j<i then j else i))
|_=>none
def maxD:List D->Option D
|[.int i,.int j]=>some (.int (if j>i then j else i))
|_=>none
theorem Jx{K:W.Frag}:n9 K (fun xs H Q=>∃i j:Int,xs=[.int i,.int j]/\Q (.int (if j<i then j else i)) H) minD:=by
 intro G H vs ds d Q gk rs e q;unfold minD at e;split at e
 .cases e;cases rs with
 |cons r1 t=>cases t with
  |cons r2 t=>cases t;exact⟨_,_,by rw[r1.int gk,r2.int gk],q _ G H (Grow.refl gk) (.scl (.int _))⟩
 .cases e
theorem Jv{K:W.Frag}:n9 K (fun xs H Q=>∃i j:Int,xs=[.int i,.int j]/\Q (.int (if j>i then j else i)) H) maxD:=by
 intro G H vs ds d Q gk rs e q;unfold maxD at e;split at e
 .cases e;cases rs with
 |cons r1 t=>cases t with
  |cons r2 t=>cases t;exact⟨_,_,by rw[r1.int gk,r2.int gk],q _ G H (Grow.refl gk) (.scl (.int _))⟩
 .cases e
section
variable{X:Cx}{g:GE}{m:List Md}{e a b:Expr}{es:List Expr}{fl:aS->Res (List D)}{fa fb:FE}{pos p:Pos}
theorem G9(hc:X.calm=true)(hg:Gl X "min")(hm:X.mg "min" = none)(ha:i0 X g m (e::es) fl)(he:h_ (e::es) X.env=(false,eval e X.env)::h_ es X.env:=by rfl)(hpl:(backTo pos (h_ es X.env)).any (·.1)=false:=by rfl):SE X g m (.Call (.Name "min" p) (e::es) [] pos) (fC fl minD):=jK Jx (m9 (Mv hc) hg hm Vo ha (by decide) (by decide) he hpl)
theorem G6(hc:X.calm=true)(hg:Gl X "max")(hm:X.mg "max" = none)(ha:i0 X g m (e::es) fl)(he:h_ (e::es) X.env=(false,eval e X.env)::h_ es X.env:=by rfl)(hpl:(backTo pos (h_ es X.env)).any (·.1)=false:=by rfl):SE X g m (.Call (.Name "max" p) (e::es) [] pos) (fC fl maxD):=jK Jv (m9 (Mu hc) hg hm PyProof.Rows.boot_max ha (by decide) (by decide) he hpl)
def B2(K:W.Frag):R2:=fun x y H Q=>∃a b ys,x=.ref a/\y=.ref b/\dQ K H a []/\dQ K H b ys/\Q (.ref b) H
theorem La:cV X (Ss .Add) (B2 X.K):=by
 intro pz s σ H x y v u Q I rx ry h;obtain⟨a,b,ys,rfl,rfl,ha,hb,q⟩:=h;cases rx;cases ry;obtain⟨its,r1,p1,_⟩:=I.tuple ha;obtain⟨its2,r2,p2,_⟩:=I.tuple hb;cases r1;obtain⟨⟨cls,dd,data,sl⟩,ho,hc,n,hd⟩:=id p1;obtain⟨⟨cls2,dd2,data2,sl2⟩,ho2,hc2,n2,hd2⟩:=id p2;simp only at hc hd hc2 hd2;subst hc hd hc2 hd2;exact U9 ⟨_,ho,rfl⟩ ⟨_,ho2,rfl⟩ UY VP TH Tx (Tl _ _)
  (tuple_addW0 a b _ _ n n2 dd dd2 sl sl2 rfl) ⟨ho,ho2,⟨.ref b,H,I,rfl,q⟩⟩
def addE:D->D->Option D
|.tup [],.tup b=>some (.tup b)
|a,b=>addA a b
theorem JH{K:W.Frag}:fQ K (fun x y H Q=>B2 K x y H Q\/((∃i j,x=.int i/\y=.int j/\Q (.int (i+j)) H)\/(∃i j,x=.str i/\y=.str j/\i.length+j.length<=sizeLine/\Q (.str (i++j)) H)\/vX K x y H Q\/vY K x y H Q)) addE:=by
 intro G H v1 v2 d1 d2 d Q gk r1 r2 e q;unfold addE at e;split at e
 .cases e;rcases r1 with r1|⟨a',_,oo⟩
  .rcases r2 with r2|⟨a',_,oo⟩
   .obtain⟨a,xs,rfl,s1,t1⟩:=r1.tup gk;obtain⟨b,ys,rfl,s2,t2⟩:=r2.tup gk;cases t1;exact .inl ⟨a,b,ys,rfl,rfl,s1,s2,q _ G H (Grow.refl gk) r2⟩
   .cases oo.ob
  .cases oo.ob
 .exact .inr (Dk G H v1 v2 d1 d2 d Q gk r1 r2 e q)
theorem C5(ha:SB X g m a fa)(hb:SB X g m b fb):SE X g m (.BinOp a .Add b pos) (f2 fa fb addE):=mE (cV.or La (cV.or CL (cV.or FC (cV.or DO DP)))) JH ha hb
end
end DL
namespace DL
open PySem PyProof.Rows L2
section
open PySem.AutoSeq1 (wpAny_loadPart')
end
end DL
namespace DL
open PySem PyProof.Rows PySem.W
section
variable{n:Nat}{c:Nat->Nat->Bool}(as:∀i j,c i j=true->c j i=false)(tr:∀i j k,c j i=false->c k j=false->c k i=false)
def Le(c:Nat->Nat->Bool)(i j:Nat):Prop:=c j i=false
def n0(c:Nat->Nat->Bool)(i j:Nat):Prop:=Le c i j/\Le c j i
include tr in
theorem n0.trans{i j k:Nat}(h1:n0 c i j)(h2:n0 c j k):n0 c i k:=⟨tr _ _ _ h1.1 h2.1,tr _ _ _ h2.2 h1.2⟩
theorem n0.symm{i j:Nat}(h:n0 c i j):n0 c j i:=⟨h.2,h.1⟩
include as tr in
include tr in
include as tr in
include as tr in
include as tr in
include as tr in
include as tr in
include as tr in
include as tr in
include as tr in
include as tr in
end
end DL
section
namespace DL
end DL
end
namespace DL
open PySem PySem.Spec PyProof.Rows L2
def ig(ks:List Int):Int:=ks.getD (W5 (fun i j=>decide (ks.getD i 0<ks.getD j 0)) (ks.length-1)) 0
theorem zP(f:Nat->Int):∀k,W5 (fun i j=>decide (f i<f j)) k<=k/\∀i,i<=k->f (W5 (fun i j=>decide (f i<f j)) k)<=f i
|0=>⟨r_ _,fun i hi=>by
   have:i=0:=by omega
   subst this;exact Yp _⟩
|k+1=>by
  obtain⟨h1,h2⟩:=zP f k;rw[argBest.eq_2];by_cases h:f (k+1)<f (W5 (fun i j=>decide (f i<f j)) k)
  .rw[if_pos (by simpa using h)];refine⟨r_ _,fun i hi=>?_⟩;by_cases z:i=k+1
   .subst z;exact Yp _
   .have:=h2 i (by omega);omega
  .rw[if_neg (by simpa using h)];refine⟨by omega,fun i hi=>?_⟩;by_cases z:i=k+1
   .subst z;omega
   .exact h2 i (by omega)
theorem Nr{ks:List Int}(h:ks≠[]):ig ks∈ks:=by
 have hp:=Sq.mpr h;have h1:=(zP (fun i=>ks.getD i 0) (ks.length-1)).1;unfold ig;have hlt:W5 (fun i j=>decide (ks.getD i 0<ks.getD j 0)) (ks.length-1)<ks.length:=by omega
 rw[E_,g_ hlt];exact Wy _
theorem KW{ks:List Int}{x:Int}(h:x∈ks):ig ks<=x:=by
 obtain⟨i,hi,rfl⟩:=List.getElem_of_mem h;have:=(zP (fun i=>ks.getD i 0) (ks.length-1)).2 i (by omega);have e:ks.getD i 0=ks[i]:=by simp[E_,hi]
 simp only[e]at this;exact this
section
variable{X:Cx}{pz:List (Addr×Obj)}{σ:L2.St}{H:Hp}{s:d_}
theorem NI(hc:X.calm=true):gF X (.builtin "min") (fun xs H Q=>∃(p:Addr)(ks:List Int),xs=[.ref p]/\c7 X.K H p (ks.map V.int)/\ks≠[]/\Q (.int (ig ks)) H):=by
 intro pz s σ H xs us Q I r h;obtain⟨p,ks,rfl,hq,hne,q⟩:=h;obtain⟨u,rfl,rx⟩:=jG r;cases rx;obtain⟨its,rv,pl,hz⟩:=I.list hq;have hl:=rv.length;rw[p_]at hl;have hA:X.A.in1.handled=none:=I.ok.hd hc;have hp:=Sq.mpr hne;have gi:∀i v,its[i]? = some v->∃t,v=Value.int (ks.getD i 0) t:=fun i v hv=>by
  have hi:i<its.length:=(c_.mp hv).1;have hki:i<(ks.map V.int).length:=by rw[p_];omega
  obtain⟨u,h1,h3⟩:=rv.get (i:=i) (x:=(ks.map V.int)[i]) (g_ hki);rw[hv]at h1;cases h1;rw[List.getElem_map]at h3;have hki':i<ks.length:=by omega
  rw[E_,g_ hki'];exact h3
 refine call_min_walkS (PySem.Flt.iter_list_ pl.isList fun s₂ e2 hi hlt hn2=>?_);refine⟨s.heap.objs.size,[s.heap.objs.size,p],[s.heap.objs.size],_,its.toArray.size,_,_,fun i j=>decide (ks.getD i 0<ks.getD j 0),rfl,(Walks.list hA _ p hn2 its.toArray).toS,hi,hlt,by rw[o_];omega,?_,fun v s' hv M=>?_⟩
 .intro i j vi vj s' Q' E' h1 h2 hq';obtain⟨t1,rfl⟩:=gi i vi (by simpa using h1);obtain⟨t2,rfl⟩:=gi j vj (by simpa using h2);exact HT.ie _ s' _ t1 _ t2 X.prog X.w E' Q' hq'
 .have hsz:its.toArray.size-1=ks.length-1:=by rw[o_];omega
  rw[hsz]at hv;obtain⟨t,rfl⟩:=gi _ v (by simpa using hv);subst e2;have ne:∀b o,s.heap.get? b=some o->¬ b∈[s.heap.objs.size]:=fun b o e z=>by have:=u_.mp z;subst this;exact absurd (s_ e) (Ri _)
  obtain⟨h',g',d',tk,os'⟩:=s';have e1:g'=s.gens:=M.gens;have e3:d'=s.drawn:=M.drawn;have e4:os'=s.os:=M.os;subst e1 e3 e4;exact⟨.int (ig ks),H,Inv.keptN I (fun b o _ e=>M.heap b o (ne b o e) (e_ _ e)) (fun m ⟨o,es,ep,e,z⟩=>⟨o,es,ep,M.heap _ _ (ne _ _ e) (e_ _ e),z⟩) tk,⟨_,rfl⟩,q⟩
end
def om:List D->Option D
|[.lst (d::ds)]=>(kb (d::ds)).map fun ks=>.int (ig ks)
|_=>none
theorem KU{K:W.Frag}:n9 K (fun xs H Q=>∃(p:Addr)(ks:List Int),xs=[.ref p]/\c7 K H p (ks.map V.int)/\ks≠[]/\Q (.int (ig ks)) H) om:=by
 intro G H vs ds d Q gk rs e q;unfold om at e;split at e
 .rename_i z zs;cases ek:kb (z::zs)with
 |none=>rw[ek]at e;cases e
 |some ks=>rw[ek]at e;cases e;cases rs with
  |cons r1 t=>
    cases t;obtain⟨b,xs,rfl,s,r⟩:=r1.lst gk;have hl:=Paired.length r;have ex:=D3 gk r ek;subst ex;refine⟨b,ks,rfl,s,?_,q _ G H (Grow.refl gk) (.scl (.int _))⟩
    rintro rfl
    simp at hl
 .cases e
section
variable{X:Cx}{g:GE}{m:List Md}{e:Expr}{es:List Expr}{fl:aS->Res (List D)}{pos p:Pos}
theorem Kl(hc:X.calm=true)(hg:Gl X "min")(hm:X.mg "min" = none)(ha:i0 X g m (e::es) fl)(he:h_ (e::es) X.env=(false,eval e X.env)::h_ es X.env:=by rfl)(hpl:(backTo pos (h_ es X.env)).any (·.1)=false:=by rfl):SE X g m (.Call (.Name "min" p) (e::es) [] pos) (fC fl om):=jK KU (m9 (NI hc) hg hm Vo ha (by decide) (by decide) he hpl)
end
def lP(h0 H:Hp):Prop:=∀a o,h0 a=some o->H a=some o
structure YieldsB(K:W.Frag)(h0:Hp)(J:It)(ds:List D)(G0:GH):Prop where
 go:∀G H (i:Nat),bY G0 G->bZ K G H->lP h0 H->i<ds.length->J.go i H
 yld:∀G H (i:Nat) x H' d,bY G0 G->bZ K G H->lP h0 H->J.yld i H x H'->ds[i]? = some d->∃G',Grow K G H G' H'/\RG K G' x d
 stop:∀G H,bY G0 G->bZ K G H->lP h0 H->J.stop ds.length H
theorem Yields.toH{K:W.Frag}{h0:Hp}{J:It}{ds:List D}{G0:GH}(y:Yields K J ds G0):YieldsB K h0 J ds G0:=⟨fun G H i w gk _ hi=>y.go G H i w gk hi,fun G H i x H' d w gk _ q e=>y.yld G H i x H' d w gk q e,fun G H w gk _=>y.stop G H w gk⟩
def Qu(X:Cx)(g:GE)(m:List Md)(f:FI):TI:=fun σ H R=>∃r G,SI X g m r G σ H/\fin (f r) (fun ds=>∀J G' H',Grow X.K G H G' H'->YieldsB X.K g.h0 J ds G'->R J H') (XW X σ G H)
def nX(X:Cx)(g:GE)(m:List Md)(tg iter:Expr)(f:FI):Prop:=PI X tg iter (Qu X g m f)
def Qw(X:Cx)(g:GE)(m:List Md)(f:FE):TE:=fun σ H Q=>∃r G,SI X g m r G σ H/\fin (f r) (fun d=>∀v G' H',Grow X.K G H G' H'->Bw X.K g.h0 G' H' v d->Q v H') (XW X σ G H)
def BD(X:Cx)(g:GE)(m:List Md)(e:Expr)(f:FE):Prop:=PE X e (Qw X g m f)
section
variable{X:Cx}{g:GE}{m m' mb:List Md}{tg e a iter:Expr}{f:FE}{pos p pos2:Pos}{ro:Bool}{sts:List Stmt}{s1:FS}{elts:List Expr}{kk:Nat}
theorem vJ(i:Nat){x:Str}(hm:m[i]? = some .bw:=by rfl)(hN:X.N[i]? = some x:=by rfl)(hv:jC X.env.scope x:=by first|exact Or.inl rfl|exact Or.inr (Or.inl rfl)|exact Or.inr (Or.inr rfl))(hd:(x==("__debug__" : Str))=false:=by decide)(hcd:(x==("__classdict__" : Str))=false:=by decide):BD X g m (.Name x pos) fun r=>gS r i:=by refine PE.imp (kS hN hv hd hcd) fun σ H Q ⟨r,G,si,q⟩=>?_;obtain⟨d,e,k⟩:=yJ q;obtain⟨v,e1,e2⟩:=si.bw i d e hm;exact⟨v,e1,k _ G H (Grow.refl si.gok) e2⟩
theorem DT{K:W.Frag}{h0:Hp}{G0 G:GH}{H0 H:Hp}{a:Addr}{ds:List D}(o:Own K G0 H0 a (.lst ds))(h:h0 a≠none)(o0:lP h0 H0)(le:bY G0 G)(o1:lP h0 H):∃xs,c7 K H a xs/\dy K G xs ds:=by cases e:h0 a with
|none=>exact absurd e h
|some u=>have h1:=o0 a u e;have h2:=o1 a u e;cases o.ob with
 |lst r s=>rw[h1]at r;cases r;exact⟨_,c7.of h2,dy.mono s le⟩
theorem Kf{K:W.Frag}{h0:Hp}{ds:List D}{G0:GH}{a:Addr}(h:∀G H,bY G0 G->bZ K G H->lP h0 H->∃xs,c7 K H a xs/\dy K G xs ds):YieldsB K h0 (rH K a) ds G0:=by
 refine⟨fun G H i w gk o hi=>?_,fun G H i x H' d w gk o y e=>?_,fun G H w gk o=>?_⟩
 .obtain⟨xs,s,r⟩:=h G H w gk o;have hl:=Paired.length r;exact⟨xs,xs[i],s,g_ (by omega)⟩
 .obtain⟨xs,s,r⟩:=h G H w gk o;obtain⟨rfl,y⟩:=y;obtain⟨v,e1,rv⟩:=Paired.get r e;have:=y xs s;rw[e1]at this;cases this;exact⟨G,Grow.refl gk,rv⟩
 .obtain⟨xs,s,r⟩:=h G H w gk o;exact⟨xs,s,Up (Paired.length r)⟩
theorem SI.oldIn{r:aS}{G:GH}{st:L2.St}{H:Hp}(s:SI X g m r G st H):lP g.h0 H:=s.old
theorem CC(h:BD X g m e f):nX X g m tg e (df dY f):=by
 refine PI.imp (wW h) fun σ H R ⟨r,G,si,q⟩=>⟨r,G,si,cY (c6 q) fun d q v G' H' w rv=>?_⟩
 obtain⟨ds,e,q⟩:=dZ q;cases d with
|lst ds'=>
  cases e;rcases rv with rv|⟨a,rfl,o,ho⟩
  .obtain⟨a,xs,rfl,s,rs⟩:=rv.lst w.ok;exact .inl ⟨a,rfl,⟨xs,s⟩,q _ G' H' w (xX rv).toH⟩
  .cases o.ob with
  |lst r s=>exact .inl ⟨a,rfl,⟨_,c7.of r⟩,q _ G' H' w (Kf fun G2 H2 le _ o2=>DT o ho (si.grow w).oldIn le o2)⟩
|tup ds'=>
  cases e;rcases rv with rv|⟨a,rfl,o,ho⟩
  .obtain⟨a,xs,rfl,s,rs⟩:=rv.tup w.ok;exact .inr ⟨a,rfl,⟨xs,s⟩,q _ G' H' w (xG rv).toH⟩
  .cases o.ob
|_=>cases e
theorem xW{K:W.Frag}{h0:Hp}{ds:List D}{G0:GH}{sq:Hp->List V->Prop}(h:∀G H,bY G0 G->bZ K G H->lP h0 H->∃xs,sq H xs/\dy K G xs ds):YieldsB K h0 (nZ sq) (dq 0 ds) G0:=by
 refine⟨fun G H i w gk o hi=>?_,fun G H i x H' d w gk o y e=>?_,fun G H w gk o=>?_⟩
 .obtain⟨xs,s,r⟩:=h G H w gk o;rw[yG]at hi;have hl:=Paired.length r;exact⟨xs,xs[i],s,g_ (by omega)⟩
 .obtain⟨xs,s,r⟩:=h G H w gk o;obtain⟨p,v,hp,rfl,rfl,hv⟩:=y;rw[D6]at e;cases ed:ds[i]? with
 |none=>rw[ed]at e;cases e
 |some d0=>rw[ed]at e;simp only[Ud,V6,Wg]at e;subst e;obtain⟨v',e1,rv⟩:=Paired.get r ed;have:=hv xs s;rw[e1]at this;cases this;exact⟨_,Grow.newF gk hp (.tup (.inl du) (.cons (.scl (.int _)) (.cons rv .nil))),.ref fU⟩
 .obtain⟨xs,s,r⟩:=h G H w gk o;rw[yG];exact⟨xs,s,Paired.length r⟩
theorem Dc(hg:Gl X "enumerate")(hm:X.mg "enumerate" = none)(he:BD X g m e f)(hs:h_ [e] X.env=(false,eval e X.env)::h_ [] X.env:=by rfl):nX X g m (.Tuple elts kk pos2) (.Call (.Name "enumerate" p) [e] [] pos) (jT f):=by
 refine PI.imp (Kx hg hm he hs) fun σ H R ⟨r,G,si,q⟩=>⟨r,G,si,cY (c6 q) fun d q v G' H' w rv=>?_⟩
 obtain⟨ds,e,q⟩:=dZ (c6 q);cases d with
|lst ds'=>
  cases e;rcases rv with rv|⟨a,rfl,o,ho⟩
  .obtain⟨a,xs,rfl,s,rs⟩:=rv.lst w.ok;refine .inl ⟨a,rfl,⟨xs,s⟩,q _ G' H' w (xW fun G H le gk _=>?_)⟩;obtain⟨b,ys,e,s',r'⟩:=(rv.mono le).lst gk;cases e;exact⟨ys,s',r'⟩
  .cases o.ob with
  |lst r s=>exact .inl ⟨a,rfl,⟨_,c7.of r⟩,q _ G' H' w (xW fun G2 H2 le _ o2=>DT o ho (si.grow w).oldIn le o2)⟩
|tup ds'=>
  cases e;rcases rv with rv|⟨a,rfl,o,ho⟩
  .obtain⟨a,xs,rfl,s,rs⟩:=rv.tup w.ok;refine .inr ⟨a,rfl,⟨xs,s⟩,q _ G' H' w (xW fun G H le gk _=>?_)⟩;obtain⟨b,ys,e,s',r'⟩:=(rv.mono le).tup gk;cases e;exact⟨ys,s',r'⟩
  .cases o.ob
|_=>cases e
theorem ss(hp:UW (D_ X.prog X.w) X.A X.env X.xe)(hc:X.calm=true){ft:FT}{fi:FI}(hi:nX X g m tg iter fi)(hg:SG X g m tg ft m)(hb:fP X g ro m m sts s1 m)(hs:∀x,Rv iter X.env x=pure x:=by intro _;rfl):SS X g ro mb m (.For tg iter sts [] pos) (g6 m fi ft s1) m:=by
 refine⟨rfl,PS.imp (wX hp hc hi hg.2 hb.2 hs) fun D σ H ⟨r,G,si,q⟩=>⟨r,G,si,cY (ip si rfl q) fun ds q J G0 H0 w0 Y=>?_⟩⟩;refine⟨fun i n σ H=>∃r G,SI X g m r G σ H/\bY G0 G/\i<=ds.length/\n=ds.length-i/\dC X g ro m mb G D (bT ft s1 (ds.drop i) r),⟨ds.length,r,G0,si.grow w0,bY.refl G0,QU _,rfl,dC.gle q w0.ge⟩,?_⟩
 rintro i n σ1 H1 ⟨r1,G1,si1,le1,hi,rfl,q1⟩
 by_cases hlt:i<ds.length
 .have hd:ds.drop i=ds[i]::ds.drop (i+1):=RF hlt;rw[hd]at q1;unfold bT at q1;refine .inr ⟨Y.go G1 H1 i le1 si1.gok si1.oldIn hlt,fun σ' H'=>∃r G,SI X g m r G σ' H'/\bY G0 G/\dC X g ro m mb G D (bT ft s1 (ds.drop (i+1)) r),fun σ' H' ⟨r',G',si',le',q'⟩=>⟨ds.length-(i+1),by omega,r',G',si',le',hlt,rfl,q'⟩,fun x H' y=>?_⟩;obtain⟨G',w',rv⟩:=Y.yld G1 H1 i x H' ds[i] le1 si1.gok si1.oldIn y (g_ hlt);have le':bY G0 G':=le1.trans w'.ge;cases eft:ft ds[i] r1 with
 |none=>simp only[eft]at q1;exact q1.elim
 |some r2=>simp only[eft]at q1;refine⟨r1,G',ds[i],si1.grow w',rv,r2,eft,fun σ2 si2=>⟨r2,G',si2,?_⟩⟩;cases eb:s1 r2 with
  |nx r'=>simp only[eb]at q1;exact fun σ3 G3 H3 le3 si3=>⟨r',G3,si3,le'.trans le3,dC.gle q1 (bY.trans w'.ge le3)⟩
  |ct r'=>simp only[eb]at q1;exact fun σ3 G3 H3 le3 si3=>⟨r',G3,si3,le'.trans le3,dC.gle q1 (bY.trans w'.ge le3)⟩
  |bk r'=>simp only[eb]at q1;exact fun σ3 G3 H3 le3 si3=>q1 σ3 G3 H3 (bY.trans w'.ge le3) si3
  |rt d=>simp only[eb]at q1;exact q1
  |exc x r'=>simp only[eb]at q1;exact fun pz e s' σ3 G3 H3 le3=>q1 pz e s' σ3 G3 H3 (bY.trans w'.ge le3)
  |stuck=>simp only[eb]at q1;exact q1
 .have e:i=ds.length:=by omega
  subst e;rw[Tf]at q1;exact .inl ⟨Y.stop G1 H1 le1 si1.gok si1.oldIn,q1 σ1 G1 H1 (bY.refl _) si1⟩
end
section
open HT (sIx)
end
section
open AutoSeq1 (wpAny_loadPart')
structure ZA(zp ti to u1 u2:Addr)(f1 f2:List Addr):Prop where
 a1:ti≠zp
 a2:to≠zp
 a3:u1≠zp
 a4:u2≠zp
 a5:to≠u1
 a6:to≠u2
 a7:u1≠u2
 a8:ti≠to/\ti≠u1/\ti≠u2
 b1:zp∉f1/\to∉f1/\u2∉f1
 b2:zp∉f2/\to∉f2/\u1∉f2
theorem _root_.PySem.Draws.at'{prog:A_}{w:M_}{A:K_}{it:Addr}{fp:List Addr}{n:Nat}{P:Nat->a_->Prop}{St:Nat->Heap->Prop}(D:VQ prog w A it fp n P St){i:Nat}{h h':Heap}{c:Addr}(st:St i h)(e:Yo c h h')(hc:c∉fp):St i h':=D.frame i h h' st fun b hb o q=>e b o (by rintro rfl;exact hc hb) q
section
variable{prog:A_}{w:M_}{A:K_}{E:a_->d_->Prop}{s:d_}{zp ti to u1 u2:Addr}{f1 f2:List Addr}{n1 n2:Nat}{P1 P2:Nat->a_->Prop}{St1 St2:Nat->Heap->Prop}{p q:a_}
theorem OM{i:Nat}{Q:a_->d_->Prop}(Z:ZA zp ti to u1 u2 f1 f2)(D1:VQ prog w A u1 f1 n1 P1 St1)(D2:VQ prog w A u2 f2 n2 P2 St2)(hz:UD s.heap zp ti to .none)(hi:Sm s.heap ti (.ref u1) (.ref u2))(ho:Sm s.heap to p q)(s1:St1 i s.heap)(s2:St2 i s.heap)(l1:i<n1)(l2:i<n2)(hQ:∀x y h' tk,P1 i x->P2 i y->UD h' zp ti to (TD s.heap.objs.size)->Sm h' to x y->St1 (i+1) h'->St2 (i+1) h'->Sm h' s.heap.objs.size x y->h'.objs.size=s.heap.objs.size+1 ->(∀c o,c≠zp->c≠to->c≠u1->c≠u2->s.heap.get? c=some o->h'.get? c=some o)->Q (.ref s.heap.objs.size) { s with heap:=h',toks:=tk }):q_ (D_ prog w) A (RE.«zip.__next__» ⟨[.ref zp],[]⟩) (fun fin s'=>∃v,fin=.done (.ret v)/\Q v s') E s:=by
 show q_ _ _ (Xj (.ref zp) 2 >>= _) _ _ _;refine b_ (QQ hz rfl (x:=.bool false) rfl ?_);show q_ _ _ (Xj (.ref zp) 3 >>= _) _ _ _;refine b_ (QQ hz rfl (x:=.ref ti) rfl (b_ (R_ hi rfl ?_)));show q_ _ _ (Rp (.ref zp) >>= _) _ _ _;refine b_ ?_;unfold Rp;refine b_ (QQ hz rfl (x:=.none) rfl (j_ ?_));simp only[if_true];refine b_ (Vh (b_ (QQ hz rfl (x:=.ref to) rfl (b_ (Sa hz (by simp) fun g1 hz1 k1=>?_)))));replace hz1:UD g1 zp ti to .ellipsis:=hz1;refine b_ ?_;simp only[Wz,WY,Ts,Vx];refine b_ (b_ (T7 ?_));show q_ _ _ (QV (.ref u1) >>= _) _ _ _;refine b_ (D1.item i _ _ _ l1 (D1.at' s1 k1.extBut Z.b1.1) fun x g2 t2 px st1 k2=>j_ ?_);have ho2:Sm g2 to p q:=k2.extBut _ _ Z.a5 (k1.extBut _ _ Z.a2 ho);refine b_ (R_ ho2 rfl (b_ (T_ ho2 fun g3 ho3 k3=>?_)));replace ho3:Sm g3 to x q:=ho3;refine b_ (WR (j_ ?_));refine b_ (b_ (T7 ?_));show q_ _ _ (QV (.ref u2) >>= _) _ _ _;refine b_ (D2.item i _ _ _ l2 (D2.at' (D2.at' (D2.at' s2 k1.extBut Z.b2.1) k2.extBut Z.b2.2.2) k3.extBut Z.b2.2.1) fun y g4 t4 py st2 k4=>j_ ?_);have ho4:Sm g4 to x q:=k4.extBut _ _ Z.a6 ho3;refine b_ (R_ ho4 rfl (b_ (T_ ho4 fun g5 ho5 k5=>?_)));replace ho5:Sm g5 to x y:=ho5;refine b_ (WR (j_ (j_ ?_)));refine b_ (R_ ho5 rfl (b_ (wpAny_newTuple ?_)));have hsz:g5.objs.size=s.heap.objs.size:=by rw[k5.1,k4.1,k3.1,k2.1,k1.1]
 have hz5:UD g5 zp ti to .ellipsis:=k5.extBut _ _ Z.a2.symm (k4.extBut _ _ Z.a4.symm (k3.extBut _ _ Z.a2.symm (k2.extBut _ _ Z.a3.symm hz1)));have st15:St1 (i+1) g5:=D1.at' (D1.at' (D1.at' st1 k3.extBut Z.b1.2.1) k4.extBut Z.b1.2.2) k5.extBut Z.b1.2.1;have st25:St2 (i+1) g5:=D2.at' st2 k5.extBut Z.b2.2.1;have hzlt:zp<g5.objs.size:=s_ hz5;show q_ _ _ (Ti (.ref zp) (.ref g5.objs.size) >>= _) _ _ _;refine b_ ?_;unfold Ti;have hz6:UD (g5.push { cls:=.type "tuple",data:=.seq #[x,y] }) zp ti to .ellipsis:=e_ _ hz5;refine b_ (Sa hz6 (by simp) fun g7 hz7 k7=>?_);replace hz7:UD g7 zp ti to (TD g5.objs.size):=hz7;refine Sa hz7 (by simp) fun g8 hz8 k8=>?_;replace hz8:UD g8 zp ti to (TD g5.objs.size):=hz8;have up:∀c o,c≠zp->g5.get? c=some o->g8.get? c=some o:=fun c o c1 e=>k8.extBut _ _ c1 (k7.extBut _ _ c1 (e_ _ e));have hT8:Sm g8 g5.objs.size x y:=k8.extBut _ _ (R1 hzlt) (k7.extBut _ _ (R1 hzlt) (x_ _ rfl));have sz8:g8.objs.size=g5.objs.size+1:=by rw[k8.1,k7.1,R9]
 rw[hsz]at hz8 hT8 sz8;refine j_ ⟨_,rfl,?_⟩;show Q (.ref g5.objs.size) _;rw[hsz];refine hQ x y g8 _ px py hz8 (up _ _ Z.a2 ho5) (D1.frame _ _ _ st15 fun b hb o e=>up b o (by rintro rfl;exact Z.b1.1 hb) e) (D2.frame _ _ _ st25 fun b hb o e=>up b o (by rintro rfl;exact Z.b2.1 hb) e) hT8 sz8 fun c o c1 c2 c3 c4 e=>up c o c1 ?_;exact k5.extBut _ _ c2 (k4.extBut _ _ c4 (k3.extBut _ _ c2 (k2.extBut _ _ c3 (k1.extBut _ _ c1 e))))
theorem NQ{i:Nat}{Q:Fin->d_->Prop}(Z:ZA zp ti to u1 u2 f1 f2)(D1:VQ prog w A u1 f1 n1 P1 St1)(D2:VQ prog w A u2 f2 n2 P2 St2)(hz:UD s.heap zp ti to .none)(hi:Sm s.heap ti (.ref u1) (.ref u2))(ho:Sm s.heap to p q)(s1:St1 i s.heap)(s2:St2 i s.heap)(hend:i=n1\/(i<n1/\i=n2))(hE:∀h' e tk,(∀c o,c≠zp->c≠to->c≠u1->c≠u2->s.heap.get? c=some o->h'.get? c=some o)->(∃o,h'.get? e=some o/\o.cls=.type "StopIteration")->E (.ref e) { s with heap:=h',toks:=tk }):q_ (D_ prog w) A (RE.«zip.__next__» ⟨[.ref zp],[]⟩) Q E s:=by
 show q_ _ _ (Xj (.ref zp) 2 >>= _) _ _ _;refine b_ (QQ hz rfl (x:=.bool false) rfl ?_);show q_ _ _ (Xj (.ref zp) 3 >>= _) _ _ _;refine b_ (QQ hz rfl (x:=.ref ti) rfl (b_ (R_ hi rfl ?_)));show q_ _ _ (Rp (.ref zp) >>= _) _ _ _;refine b_ ?_;unfold Rp;refine b_ (QQ hz rfl (x:=.none) rfl (j_ ?_));simp only[if_true];refine b_ (Vh (b_ (QQ hz rfl (x:=.ref to) rfl (b_ (Sa hz (by simp) fun g1 hz1 k1=>?_)))));replace hz1:UD g1 zp ti to .ellipsis:=hz1;refine b_ ?_;simp only[Wz,WY,Ts,Vx];refine b_ (b_ (T7 ?_));show q_ _ _ (QV (.ref u1) >>= _) _ _ _;rcases hend with hend|⟨hlt,hend⟩
 .subst hend;refine b_ (D1.done _ _ _ (D1.at' s1 k1.extBut Z.b1.1) fun g2 e k2 he=>?_);obtain⟨oe,hoe,hce⟩:=he;have hz2:UD g2 zp ti to .ellipsis:=k2 _ _ Z.a3.symm hz1;have hez:e≠zp:=fun x=>by subst x;rw[hz2]at hoe;cases hoe;simp at hce
  exact Sa hz2 (by simp) fun g3 _ k3=>hE g3 e _ (fun c o c1 _ c3 _ x=>k3.extBut _ _ c1 (k2 _ _ c3 (k1.extBut _ _ c1 x))) ⟨oe,k3.extBut _ _ hez hoe,hce⟩
 .subst hend;refine b_ (D1.item _ _ _ _ hlt (D1.at' s1 k1.extBut Z.b1.1) fun x g2 t2 px st1 k2=>j_ ?_);have ho2:Sm g2 to p q:=k2.extBut _ _ Z.a5 (k1.extBut _ _ Z.a2 ho);refine b_ (R_ ho2 rfl (b_ (T_ ho2 fun g3 ho3 k3=>?_)));refine b_ (WR (j_ ?_));refine b_ (b_ (T7 ?_));show q_ _ _ (QV (.ref u2) >>= _) _ _ _;refine b_ (D2.done _ _ _ (D2.at' (D2.at' (D2.at' s2 k1.extBut Z.b2.1) k2.extBut Z.b2.2.2) k3.extBut Z.b2.2.1) fun g4 e k4 he=>?_);obtain⟨oe,hoe,hce⟩:=he;have hz4:UD g4 zp ti to .ellipsis:=k4 _ _ Z.a4.symm (k3.extBut _ _ Z.a2.symm (k2.extBut _ _ Z.a3.symm hz1));have hez:e≠zp:=fun x=>by subst x;rw[hz4]at hoe;cases hoe;simp at hce
  exact Sa hz4 (by simp) fun g5 _ k5=>hE g5 e _ (fun c o c1 c2 c3 c4 x=>k5.extBut _ _ c1 (k4 _ _ c4 (k3.extBut _ _ c2 (k2.extBut _ _ c3 (k1.extBut _ _ c1 x))))) ⟨oe,k5.extBut _ _ hez hoe,hce⟩
theorem Pq{i:Nat}{Q:Option a_->d_->Prop}(Z:ZA zp ti to u1 u2 f1 f2)(D1:VQ prog w A.in1 u1 f1 n1 P1 St1)(D2:VQ prog w A.in1 u2 f2 n2 P2 St2)(hz:UD s.heap zp ti to .none)(hi:Sm s.heap ti (.ref u1) (.ref u2))(ho:Sm s.heap to p q)(s1:St1 i s.heap)(s2:St2 i s.heap)(l1:i<n1)(l2:i<n2)(hQ:∀x y h' tk,P1 i x->P2 i y->UD h' zp ti to (TD s.heap.objs.size)->Sm h' to x y->St1 (i+1) h'->St2 (i+1) h'->Sm h' s.heap.objs.size x y->h'.objs.size=s.heap.objs.size+1 ->(∀c o,c≠zp->c≠to->c≠u1->c≠u2->s.heap.get? c=some o->h'.get? c=some o)->Q (some (.ref s.heap.objs.size)) { s with heap:=h',toks:=tk }):q_ (D_ prog w) A (Wp (.ref zp)) Q E s:=by
 have hT:s.TypeIs (.ref zp) "zip" := ⟨_,hz,rfl⟩
 unfold Wp;exact b_ (UU (RT (name:=l_ "__next__") hT F.slot_zip_next (Su F.slot_zip_next hT F.entry_zip_next
   (OM Z D1 D2 hz hi ho s1 s2 l1 l2 fun x y h' tk b1 b2 b3 b4 b5 b6 b7 b8 b9=>j_ (hQ x y h' tk b1 b2 b3 b4 b5 b6 b7 b8 b9)) (F.args_zip_next_1 _))))
theorem P3{i:Nat}{Q:Option a_->d_->Prop}(Z:ZA zp ti to u1 u2 f1 f2)(D1:VQ prog w A.in1 u1 f1 n1 P1 St1)(D2:VQ prog w A.in1 u2 f2 n2 P2 St2)(hz:UD s.heap zp ti to .none)(hi:Sm s.heap ti (.ref u1) (.ref u2))(ho:Sm s.heap to p q)(s1:St1 i s.heap)(s2:St2 i s.heap)(hend:i=n1\/(i<n1/\i=n2))(hQ:∀h' tk,(∀c o,c≠zp->c≠to->c≠u1->c≠u2->s.heap.get? c=some o->h'.get? c=some o)->Q none { s with heap:=h',toks:=tk }):q_ (D_ prog w) A (Wp (.ref zp)) Q E s:=by
 have hT:s.TypeIs (.ref zp) "zip" := ⟨_,hz,rfl⟩
 unfold Wp;refine b_ (UU (RT (name:=l_ "__next__") hT F.slot_zip_next (Su F.slot_zip_next hT F.entry_zip_next (NQ Z D1 D2 hz hi ho s1 s2 hend fun h' e tk hk he=>?_) (F.args_zip_next_1 _))));obtain⟨o,ho,hc⟩:=he;exact b_ (WA (T := "StopIteration") (b:=true) ⟨o,ho,hc⟩ isSubtype_stop (j_ (hQ _ _ hk)))
end
abbrev iZ(c:String)(l:Addr):Obj:={ cls:=.type c,data:=.fields #[.ref l,.int 0 0] }
abbrev tf(h:Heap)(c1 c2:String)(l1 l2:Addr):Heap:=(h.push (iZ c1 l1)).push (iZ c2 l2)
abbrev sZ(h:Heap)(c1 c2:String)(l1 l2:Addr):Heap:=(tf h c1 c2 l1 l2).push { cls:=.type "tuple",data:=.seq #[.ref h.objs.size,.ref (h.push (iZ c1 l1)).objs.size] }
abbrev kO(h:Heap)(c1 c2:String)(l1 l2:Addr):Heap:=(sZ h c1 c2 l1 l2).push { cls:=.type "tuple",data:=.seq #[.none,.none] }
abbrev jI(h:Heap)(c1 c2:String)(l1 l2:Addr):Heap:=(kO h c1 c2 l1 l2).push { cls:=.type "zip",data:=.fields #[.none,.bool false,.bool false,.ref (tf h c1 c2 l1 l2).objs.size,.ref (sZ h c1 c2 l1 l2).objs.size] }
theorem Ed{h:Heap}{a:Addr}{xs:Array a_}(x:h.IsTuple a xs)(o:Obj):(h.push o).IsTuple a xs:=let⟨u,hu,r⟩:=x;⟨u,e_ _ hu,r⟩
theorem Oq(l1 l2:Addr)(xs ys:Array a_):Yn (RE.«zip.__new__» ⟨[.type "zip",.ref l1,.ref l2],[]⟩) (fun _ R s=>s.heap.IsList l1 xs/\s.heap.IsList l2 ys /\R (.ok (.ret (.ref (kO s.heap "list_iterator" "list_iterator" l1 l2).objs.size))) { s with heap:=jI s.heap "list_iterator" "list_iterator" l1 l2 }):=
 .of_wp fun prog w A R s h=>by
  obtain⟨hp,gg,dd,tk,os⟩:=s;obtain⟨q1,q2,h⟩:=h;have hsub:=Yh;have e1:Vy (SD ⟨hp,gg,dd,tk,os⟩) l1 xs:=q1;have e2:Vy (SD ⟨hp.push (iZ "list_iterator" l1),gg,dd,tk,os⟩) l2 ys:=WB q2 _
  wp_walk using S4 e1,S4 e2
  exact⟨_,rfl,h⟩
theorem Ot(l1 l2:Addr)(xs ys:Array a_):Yn (RE.«zip.__new__» ⟨[.type "zip",.ref l1,.ref l2],[]⟩) (fun _ R s=>s.heap.IsTuple l1 xs/\s.heap.IsList l2 ys /\R (.ok (.ret (.ref (kO s.heap "tuple_iterator" "list_iterator" l1 l2).objs.size))) { s with heap:=jI s.heap "tuple_iterator" "list_iterator" l1 l2 }):=
 .of_wp fun prog w A R s h=>by
  obtain⟨hp,gg,dd,tk,os⟩:=s;obtain⟨q1,q2,h⟩:=h;have hsub:=Yh;have e1:Ur (SD ⟨hp,gg,dd,tk,os⟩) l1 xs:=q1;have e2:Vy (SD ⟨hp.push (iZ "tuple_iterator" l1),gg,dd,tk,os⟩) l2 ys:=WB q2 _
  wp_walk using Rr e1,S4 e2
  exact⟨_,rfl,h⟩
theorem Ou(l1 l2:Addr)(xs ys:Array a_):Yn (RE.«zip.__new__» ⟨[.type "zip",.ref l1,.ref l2],[]⟩) (fun _ R s=>s.heap.IsTuple l1 xs/\s.heap.IsTuple l2 ys /\R (.ok (.ret (.ref (kO s.heap "tuple_iterator" "tuple_iterator" l1 l2).objs.size))) { s with heap:=jI s.heap "tuple_iterator" "tuple_iterator" l1 l2 }):=
 .of_wp fun prog w A R s h=>by
  obtain⟨hp,gg,dd,tk,os⟩:=s;obtain⟨q1,q2,h⟩:=h;have hsub:=Yh;have e1:Ur (SD ⟨hp,gg,dd,tk,os⟩) l1 xs:=q1;have e2:Ur (SD ⟨hp.push (iZ "tuple_iterator" l1),gg,dd,tk,os⟩) l2 ys:=Ed q2 _
  wp_walk using Rr e1,Rr e2
  exact⟨_,rfl,h⟩
theorem Os(l1 l2:Addr)(xs ys:Array a_):Yn (RE.«zip.__new__» ⟨[.type "zip",.ref l1,.ref l2],[]⟩) (fun _ R s=>s.heap.IsList l1 xs/\s.heap.IsTuple l2 ys /\R (.ok (.ret (.ref (kO s.heap "list_iterator" "tuple_iterator" l1 l2).objs.size))) { s with heap:=jI s.heap "list_iterator" "tuple_iterator" l1 l2 }):=
 .of_wp fun prog w A R s h=>by
  obtain⟨hp,gg,dd,tk,os⟩:=s;obtain⟨q1,q2,h⟩:=h;have hsub:=Yh;have e1:Vy (SD ⟨hp,gg,dd,tk,os⟩) l1 xs:=q1;have e2:Ur (SD ⟨hp.push (iZ "list_iterator" l1),gg,dd,tk,os⟩) l2 ys:=Ed q2 _
  wp_walk using S4 e1,Rr e2
  exact⟨_,rfl,h⟩
section
variable{prog:A_}{w:M_}{A:K_}{E:a_->d_->Prop}{s:d_}
def jl(s:d_)(c1 c2:String)(l1 l2:Addr)(Q:a_->d_->Prop):Prop:=∀h',UD h' (s.heap.objs.size+4) (s.heap.objs.size+2) (s.heap.objs.size+3) .none->Sm h' (s.heap.objs.size+2) (.ref s.heap.objs.size) (.ref (s.heap.objs.size+1)) ->Sm h' (s.heap.objs.size+3) .none .none->h'.get? s.heap.objs.size=some (iZ c1 l1)->h'.get? (s.heap.objs.size+1)=some (iZ c2 l2) ->(∀c o,s.heap.get? c=some o->h'.get? c=some o)->Q (.ref (s.heap.objs.size+4)) { s with heap:=h' }
theorem sG{c1 c2:String}{l1 l2:Addr}{Q:a_->d_->Prop}(h:jl s c1 c2 l1 l2 Q):(∃o,(jI s.heap c1 c2 l1 l2).get? (kO s.heap c1 c2 l1 l2).objs.size=some o/\o.cls=.type "zip")/\Q (.ref (kO s.heap c1 c2 l1 l2).objs.size) { s with heap:=jI s.heap c1 c2 l1 l2 }:=by
 have z1:(s.heap.push (iZ c1 l1)).objs.size=s.heap.objs.size+1:=R9 ..;have z2:(tf s.heap c1 c2 l1 l2).objs.size=s.heap.objs.size+2:=by rw[R9,z1]
 have z3:(sZ s.heap c1 c2 l1 l2).objs.size=s.heap.objs.size+3:=by rw[R9,z2]
 have z4:(kO s.heap c1 c2 l1 l2).objs.size=s.heap.objs.size+4:=by rw[R9,z3]
 have g5:(jI s.heap c1 c2 l1 l2).get? (kO s.heap c1 c2 l1 l2).objs.size=some _:=x_ _ rfl;have g4:(jI s.heap c1 c2 l1 l2).get? (sZ s.heap c1 c2 l1 l2).objs.size=some _:=e_ _ (x_ _ rfl);have g3:(jI s.heap c1 c2 l1 l2).get? (tf s.heap c1 c2 l1 l2).objs.size=some _:=e_ _ (e_ _ (x_ _ rfl));have g2:(jI s.heap c1 c2 l1 l2).get? (s.heap.push (iZ c1 l1)).objs.size=some (iZ c2 l2):=e_ _ (e_ _ (e_ _ (x_ _ rfl)));have g1:(jI s.heap c1 c2 l1 l2).get? s.heap.objs.size=some (iZ c1 l1):=e_ _ (e_ _ (e_ _ (e_ _ (x_ _ rfl))));rw[z2,z3,z4]at g5;rw[z1,z2]at g3;rw[z3]at g4;rw[z1]at g2;rw[z4];exact⟨⟨_,g5,rfl⟩,h _ g5 g3 g4 g1 g2 fun c o x=>e_ _ (e_ _ (e_ _ (e_ _ (e_ _ x))))⟩
theorem Mw{l1 l2:Addr}{xs ys:Array a_}{Q:a_->d_->Prop}(q1:s.heap.IsList l1 xs)(q2:s.heap.IsList l2 ys)(h:jl s "list_iterator" "list_iterator" l1 l2 Q):q_ (D_ prog w) A (call (.type "zip") [.ref l1,.ref l2]) Q E s:=Us F.called_zip (by decide) (F.typeCall_zip_2 _ _) (F.newCall_zip_2 _ _) (fun obj=>F.args_object_init_3 obj _ _) F.entry_zip_new (Oq l1 l2 xs ys) ⟨q1,q2,sG h⟩
theorem My{l1 l2:Addr}{xs ys:Array a_}{Q:a_->d_->Prop}(q1:s.heap.IsTuple l1 xs)(q2:s.heap.IsList l2 ys)(h:jl s "tuple_iterator" "list_iterator" l1 l2 Q):q_ (D_ prog w) A (call (.type "zip") [.ref l1,.ref l2]) Q E s:=Us F.called_zip (by decide) (F.typeCall_zip_2 _ _) (F.newCall_zip_2 _ _) (fun obj=>F.args_object_init_3 obj _ _) F.entry_zip_new (Ot l1 l2 xs ys) ⟨q1,q2,sG h⟩
theorem Mz{l1 l2:Addr}{xs ys:Array a_}{Q:a_->d_->Prop}(q1:s.heap.IsTuple l1 xs)(q2:s.heap.IsTuple l2 ys)(h:jl s "tuple_iterator" "tuple_iterator" l1 l2 Q):q_ (D_ prog w) A (call (.type "zip") [.ref l1,.ref l2]) Q E s:=Us F.called_zip (by decide) (F.typeCall_zip_2 _ _) (F.newCall_zip_2 _ _) (fun obj=>F.args_object_init_3 obj _ _) F.entry_zip_new (Ou l1 l2 xs ys) ⟨q1,q2,sG h⟩
theorem Mx{l1 l2:Addr}{xs ys:Array a_}{Q:a_->d_->Prop}(q1:s.heap.IsList l1 xs)(q2:s.heap.IsTuple l2 ys)(h:jl s "list_iterator" "tuple_iterator" l1 l2 Q):q_ (D_ prog w) A (call (.type "zip") [.ref l1,.ref l2]) Q E s:=Us F.called_zip (by decide) (F.typeCall_zip_2 _ _) (F.newCall_zip_2 _ _) (fun obj=>F.args_object_init_3 obj _ _) F.entry_zip_new (Os l1 l2 xs ys) ⟨q1,q2,sG h⟩
end
end
def gX(K:W.Frag)(t:Bool)(a:Addr)(H:Hp)(xs:List V):Prop:=match t with
|false=>c7 K H a xs
|true=>dQ K H a xs
def mr(t:Bool)(a u:Addr)(i:Nat)(h:Heap):Prop:=match t with
|false=>h.IsListIter u a i
|true=>h.IsTupleIter u a i
abbrev Bq(t:Bool):String:=match t with
|false => "list_iterator"
|true => "tuple_iterator"
theorem Dg{t:Bool}{a u:Addr}{h:Heap}(e:h.get? u=some (iZ (Bq t) a)):mr t a u 0 h:=by cases t <;> exact⟨_,e,rfl,rfl⟩
theorem sF{t:Bool}{a u:Addr}{i:Nat}{h:Heap}(e:mr t a u i h):∃o,h.get? u=some o/\∀v,o.data≠.cell v:=by cases t <;> (obtain⟨o,ho,hc,hd⟩:=e;exact⟨o,ho,fun v z=>by rw[hd]at z;cases z⟩)
theorem sR{t:Bool}{a u:Addr}{i:Nat}{h h':Heap}(e:mr t a u i h)(k:∀o,h.get? u=some o->h'.get? u=some o):mr t a u i h':=by cases t <;> (obtain⟨o,ho,r⟩:=e;exact⟨o,k o ho,r⟩)
section
variable{X:Cx}{pz:List (Addr×Obj)}{σ:L2.St}{H:Hp}{s:d_}{t:Bool}{a u:Addr}{xs ys:List V}{i:Nat}
theorem rL(I:Inv X pz σ H s)(hc:X.calm=true)(hq:gX X.K t a H xs)(hau:a≠u)(hi:mr t a u i s.heap):∃(its:List a_)(St:Nat->Heap->Prop),aU xs its/\VQ X.prog X.w X.A.in1 u [u,a] its.toArray.size (fun i v=>its.toArray[i]? = some v) St/\St i s.heap/\∀j h',St j h'->mr t a u j h':=by cases t with
|false=>obtain⟨its,rv,p,hz⟩:=I.list hq;exact⟨its,_,rv,Xk (A:=X.A.in1) (show X.A.in1.handled=none from I.ok.hd hc) u a hau its.toArray,⟨hi,p.isList⟩,fun j h' st=>st.1⟩
|true=>obtain⟨its,rv,p,hz⟩:=I.tuple hq;exact⟨its,_,rv,wU (A:=X.A.in1) (show X.A.in1.handled=none from I.ok.hd hc) u a hau its.toArray,⟨hi,p⟩,fun j h' st=>st.1⟩
theorem D7(I:Inv X pz σ H s)(h1:gX X.K t a H xs)(h2:gX X.K t a H ys):xs=ys:=by cases t with
|false=>exact I.list_inj h1 h2
|true=>exact I.tuple_inj h1 h2
theorem E8(I:Inv X pz σ H s)(h1:gX X.K t a H xs):a<s.heap.objs.size:=by cases t with
|false=>obtain⟨its,rv,p,hz⟩:=I.list h1;obtain⟨o,ho,_⟩:=p.isList;exact s_ ho
|true=>obtain⟨its,rv,p,hz⟩:=I.tuple h1;obtain⟨o,ho,_⟩:=id p;exact s_ ho
theorem NC{h':Heap}{ch:List Addr}{t':Nat}(I:Inv X pz σ H s)(hch:∀b∈ch,eV X pz H b)(k:∀b ob,b∉ch->s.heap.get? b=some ob->h'.get? b=some ob):Inv X pz σ H { s with heap:=h',toks:=t' }:=by
 have trk:∀b u,H b=some u->b∉ch:=fun b u e hb=>by rw[(hch b hb).1]at e;cases e
 refine I.step (g':=s.gens) (d':=s.drawn) (ch:=ch) (fun b hb=>?_) (fun b ob _ _ hc e _=>k b ob hc e) (fun b ob _ _ hc e _=>⟨ob.slots,k b ob hc e⟩) (fun b ob hc e n=>n)
  (fun b ob hc e=>⟨ob,k b ob hc e⟩) (fun b xs e=>e) (fun b ob u e=>e) (fun b ps e=>⟨#[],by rw[e];simp⟩) (fun m hm=>?_) (fun b u e=>?_) I.bare
 .obtain⟨z0,z1,z2,z3,z4,z5⟩:=hch b hb;exact⟨z3,z1,z4,z5⟩
 .obtain⟨ob,es,ep,ho,r⟩:=hm;exact⟨ob,es,ep,k _ ob (fun hb=>(hch _ hb).2.1 rfl) ho,r⟩
 .refine(I.hok b u e).stay (fun c v hc q=>k c v ?_ q) (fun c q=>q) fun c xs q=>q;rcases hc with z|z
  .rw[z];exact trk b u e
  .exact trk c _ z
end
def vS(sq1 sq2:Hp->List V->Prop):It:=⟨fun i H=>∃xs ys x y,sq1 H xs/\sq2 H ys/\xs[i]? = some x/\ys[i]? = some y,fun i H x H'=>∃p v u,H p=none/\x=.ref p/\H'=upd H p (.tup [v,u])/\(∀xs,sq1 H xs->xs[i]? = some v)/\∀ys,sq2 H ys->ys[i]? = some u,fun i H=>∃xs ys,sq1 H xs/\sq2 H ys/\min xs.length ys.length=i⟩
theorem M6{P:A_}{w:M_}{H:Hp}{h:Heap}{T:Addr}{x y:a_}{v u:V}(hT:h.get? T=some { cls:=.type "tuple",data:=.seq #[x,y] })(r1:L2.aY v x)(r2:L2.aY u y):dz P w H h T (.tup [v,u]):=⟨by show 2<=sizeLine;decide,[x,y],.cons r1 (.cons r2 .nil),⟨_,hT,rfl,0,rfl⟩,_,hT,rfl⟩
theorem NP{P:A_}{w:M_}{K:W.Frag}{elts:List Expr}{k:Nat}{pos:Pos}{t1 t2:Bool}(a b zp ti to u1 u2:Addr)(Z:ZA zp ti to u1 u2 [u1,a] [u2,b])(h1:a≠u1)(h2:b≠u2):Turn P w K (.Tuple elts k pos) (vS (gX K t1 a) (gX K t2 b)) [zp,ti,to,u1,u2] zp (fun i h=>UD h zp ti to .none/\Sm h ti (.ref u1) (.ref u2)/\(∃p q,Sm h to p q)/\mr t1 a u1 i h/\mr t2 b u2 i h) where
 mem:=by simp
 obj:=fun i h st c hc=>by
  obtain⟨hz,hi,⟨p,q,ho⟩,s1,s2⟩:=st;simp only[w_,QZ,or_false]at hc;rcases hc with rfl|rfl|rfl|rfl|rfl
  .exact⟨_,hz,fun v z=>by have z':Data.fields _=Data.cell v:=z;cases z'⟩
  .exact⟨_,hi,fun v z=>by have z':Data.seq _ _=Data.cell v:=z;cases z'⟩
  .exact⟨_,ho,fun v z=>by have z':Data.seq _ _=Data.cell v:=z;cases z'⟩
  .exact sF s1
  .exact sF s2
 keep:=fun i h h' st kk=>by obtain⟨hz,hi,⟨p,q,ho⟩,s1,s2⟩:=st;exact⟨kk zp (by simp) _ hz,kk ti (by simp) _ hi,⟨p,q,kk to (by simp) _ ho⟩,sR s1 fun o e=>kk u1 (by simp) o e,sR s2 fun o e=>kk u2 (by simp) o e⟩
 item:=by
  intro X hP hw hK hc i pz s σ H E I hf st hg;subst hP hw hK;obtain⟨xs,ys,x,y,q1,q2,hx,hy⟩:=hg;obtain⟨hz,hi,⟨p,q,ho⟩,s1,s2⟩:=st;obtain⟨its1,St1,rv1,D1,d1,f1⟩:=rL I hc q1 h1 s1;obtain⟨its2,St2,rv2,D2,d2,f2⟩:=rL I hc q2 h2 s2;have l1:i<its1.toArray.size:=by have:=(c_.mp hx).1;rw[o_,<-rv1.length];exact this
  have l2:i<its2.toArray.size:=by have:=(c_.mp hy).1;rw[o_,<-rv2.length];exact this
  refine Pq Z D1 D2 hz hi ho d1 d2 l1 l2 fun vx vy h' tk px py hz' hto' st1' st2' hT hsz hk=>⟨_,rfl,wpAny_letOwnedTupleGo_zip hz' fun h'' hz'' hs''=>?_⟩
  obtain⟨wx,e1,r1⟩:=rv1.get hx;obtain⟨wy,e2,r2⟩:=rv2.get hy;have ex:vx=wx:=by
   have:its1[i]? = some vx:=by simpa using px
   rw[e1]at this;exact(z_ this).symm
  have ey:vy=wy:=by
   have:its2[i]? = some vy:=by simpa using py
   rw[e2]at this;exact(z_ this).symm
  subst ex ey;have nT:∀c o,s.heap.get? c=some o->s.heap.objs.size≠c:=fun c o e=>R1 (s_ e);have hT'':h''.get? s.heap.objs.size=some { cls:=.type "tuple",data:=.seq #[vx,vy] }:=(hs''.2 _ (nT _ _ hz)).trans hT;obtain⟨o1,ho1,_⟩:=sF s1;obtain⟨o2,ho2,_⟩:=sF s2;refine⟨.ref s.heap.objs.size,upd H s.heap.objs.size (.tup [x,y]),yK (s:=s) (h':=h'') (t':=tk) (ch:=[zp,to,u1,u2]) I (fun c hc=>hf c ?_) (fun c ob hb e=>?_) (r_ _) (M6 hT'' r1 r2),rfl,⟨_,x,y,I.hok.fresh (r_ _),rfl,rfl,fun zs hz=>by rw[D7 I hz q1];exact hx,fun zs hz=>by rw[D7 I hz q2];exact hy⟩,⟨hz'',?_,⟨vx,vy,?_⟩,?_,?_⟩,fun c hc=>?_⟩
  .simp only[w_,QZ,or_false]at hc ⊢;rcases hc with rfl|rfl|rfl|rfl <;> simp
  .simp only[w_,QZ,or_false,not_or]at hb;exact(hs''.2 c hb.1).trans (hk c ob hb.1 hb.2.1 hb.2.2.1 hb.2.2.2 e)
  .exact(hs''.2 _ Z.a1).trans (hk _ _ Z.a1 Z.a8.1 Z.a8.2.1 Z.a8.2.2 hi)
  .exact(hs''.2 _ Z.a2).trans hto'
  .exact sR (f1 _ _ st1') fun o e=>(hs''.2 _ Z.a3).trans e
  .exact sR (f2 _ _ st2') fun o e=>(hs''.2 _ Z.a4).trans e
  .rw[cM ?_]
   .exact(hf c hc).1
   .simp only[w_,QZ,or_false]at hc;rcases hc with rfl|rfl|rfl|rfl|rfl
    .exact(nT _ _ hz).symm
    .exact(nT _ _ hi).symm
    .exact(nT _ _ ho).symm
    .exact(nT _ _ ho1).symm
    .exact(nT _ _ ho2).symm
 done:=by
  intro X hP hw hK hc i pz s σ H E I hf st hg;subst hP hw hK;obtain⟨xs,ys,q1,q2,hm⟩:=hg;obtain⟨hz,hi,⟨p,q,ho⟩,s1,s2⟩:=st;obtain⟨its1,St1,rv1,D1,d1,f1⟩:=rL I hc q1 h1 s1;obtain⟨its2,St2,rv2,D2,d2,f2⟩:=rL I hc q2 h2 s2;have l1:=rv1.length;have l2:=rv2.length;refine P3 Z D1 D2 hz hi ho d1 d2 ?_ fun h' tk hk=>⟨rfl,NC (h':=h') (t':=tk) (ch:=[zp,to,u1,u2]) I (fun c hc=>hf c ?_) fun c ob hb e=>?_⟩
  .rw[o_,o_];omega
  .simp only[w_,QZ,or_false]at hc ⊢;rcases hc with rfl|rfl|rfl|rfl <;> simp
  .simp only[w_,QZ,or_false,not_or]at hb;exact hk c ob hb.1 hb.2.1 hb.2.2.1 hb.2.2.2 e
 self:=fun _ _ _ _ _ st h=>WC st.1 h
def lD(fa fb:FE):FI:=fun r=>(fa r).bind fun d=>(fb r).bind fun e=>(dM (dY d)).bind fun ds=>(dM (dY e)).bind fun es=>.ok (Te (fun a b=>D.tup [a,b]) ds es)
theorem NR{α β γ:Type}(f:α->β->γ):∀(l:List α)(r:List β)(i:Nat),(Te f l r)[i]? = (match l[i]?,r[i]? with|some a,some b=>some (f a b)|_,_=>none):=fun l r i=>by rw[Vn];cases l[i]? <;> cases r[i]? <;> rfl
theorem Kh{K:W.Frag}{ds es:List D}{G0:GH}{sq1 sq2:Hp->List V->Prop}(h1:∀G H,bY G0 G->bZ K G H->∃xs,sq1 H xs/\dy K G xs ds)(h2:∀G H,bY G0 G->bZ K G H->∃xs,sq2 H xs/\dy K G xs es):Yields K (vS sq1 sq2) (Te (fun a b=>D.tup [a,b]) ds es) G0:=by
 refine⟨fun G H i w gk hi=>?_,fun G H i x H' d w gk y e=>?_,fun G H w gk=>?_⟩
 .obtain⟨xs,s1,r1⟩:=h1 G H w gk;obtain⟨ys,s2,r2⟩:=h2 G H w gk;rw[Uj]at hi;have l1:=Paired.length r1;have l2:=Paired.length r2;exact⟨xs,ys,xs[i]'(by omega),ys[i]'(by omega),s1,s2,g_ _,g_ _⟩
 .obtain⟨xs,s1,r1⟩:=h1 G H w gk;obtain⟨ys,s2,r2⟩:=h2 G H w gk;obtain⟨p,v,u,hp,rfl,rfl,hv,hu⟩:=y;rw[NR]at e;cases e1:ds[i]? with
 |none=>rw[e1]at e;cases e
 |some d1=>cases e2:es[i]? with
  |none=>rw[e1,e2]at e;cases e
  |some d2=>rw[e1,e2]at e;cases e;obtain⟨v',z1,rv⟩:=Paired.get r1 e1;obtain⟨u',z2,ru⟩:=Paired.get r2 e2;have a1:=hv xs s1;have a2:=hu ys s2;rw[z1]at a1;cases a1;rw[z2]at a2;cases a2;exact⟨_,Grow.newF gk hp (.tup (.inl du) (.cons rv (.cons ru .nil))),.ref fU⟩
 .obtain⟨xs,s1,r1⟩:=h1 G H w gk;obtain⟨ys,s2,r2⟩:=h2 G H w gk;refine⟨xs,ys,s1,s2,?_⟩;rw[Uj,Paired.length r1,Paired.length r2]
section
variable{X:Cx}{g:GE}{m:List Md}{e1 e2:Expr}{fa fb:FE}{pos p pos2:Pos}{elts:List Expr}{kk:Nat}
theorem JQ{pz:List (Addr×Obj)}{σ:L2.St}{H:Hp}{s:d_}{t1 t2:Bool}{a b:Addr}{xs ys:List V}{E:a_->d_->Prop}{Q:a_->d_->Prop}(I:Inv X pz σ H s)(q1:gX X.K t1 a H xs)(q2:gX X.K t2 b H ys)(h:jl s (Bq t1) (Bq t2) a b Q):q_ (D_ X.prog X.w) X.A (call (.type "zip") [.ref a,.ref b]) Q E s:=by cases t1 with
|false=>obtain⟨its1,_,p1,_⟩:=I.list q1;cases t2 with
 |false=>obtain⟨its2,_,p2,_⟩:=I.list q2;exact Mw p1.isList p2.isList h
 |true=>obtain⟨its2,_,p2,_⟩:=I.tuple q2;exact Mx p1.isList (show s.heap.IsTuple b its2.toArray from p2) h
|true=>obtain⟨its1,_,p1,_⟩:=I.tuple q1;cases t2 with
 |false=>obtain⟨its2,_,p2,_⟩:=I.list q2;exact My (show s.heap.IsTuple a its1.toArray from p1) p2.isList h
 |true=>obtain⟨its2,_,p2,_⟩:=I.tuple q2;exact Mz (show s.heap.IsTuple a its1.toArray from p1) (show s.heap.IsTuple b its2.toArray from p2) h
theorem kg{x y:Nat}(h:x≠y):(show Addr from x)≠(show Addr from y):=h
theorem oM{x u a:Nat}(h1:x≠u)(h2:x≠a):(show Addr from x)∉[(show Addr from u),(show Addr from a)]:=fun h=>by
 rcases w_.mp h with h|h
 .exact h1 h
 .exact h2 (u_.mp h)
theorem JC{a b k:Nat}(la:a<k)(lb:b<k):ZA (show Addr from k+4) (show Addr from k+2) (show Addr from k+3) (show Addr from k) (show Addr from k+1) [(show Addr from k),(show Addr from a)] [(show Addr from k+1),(show Addr from b)]:=⟨kg (by omega),kg (by omega),kg (by omega),kg (by omega),kg (by omega),kg (by omega),kg (by omega),⟨kg (by omega),kg (by omega),kg (by omega)⟩,⟨oM (by omega) (by omega),oM (by omega) (by omega),oM (by omega) (by omega)⟩,⟨oM (by omega) (by omega),oM (by omega) (by omega),oM (by omega) (by omega)⟩⟩
theorem HE{c k:Nat}(h:c=k+4\/c=k+2\/c=k+3\/c=k\/c=k+1):k<=c:=by omega
theorem IJ{ta tb:TE}(hg:Gl X "zip")(hm:X.mg "zip" = none)(ha:PE X e1 ta)(hb:PE X e2 tb)(hs:h_ [e1,e2] X.env=(false,eval e1 X.env)::h_ [e2] X.env:=by rfl)(hs2:h_ [e2] X.env=(false,eval e2 X.env)::h_ [] X.env:=by rfl)(hpl:(backTo pos (h_ [e2] X.env)).any (·.1)=false:=by rfl):PI X (.Tuple elts kk pos2) (.Call (.Name "zip" p) [e1,e2] [] pos) (fun σ H R=>ta σ H fun x H1=>tb σ H1 fun y H2=>∃(t1 t2:Bool)(a b:Addr),x=.ref a/\y=.ref b/\(∃xs,gX X.K t1 a H2 xs)/\(∃ys,gX X.K t2 b H2 ys)/\R (vS (gX X.K t1 a) (gX X.K t2 b)) H2):=by
 intro pz s σ H R I h;refine Call_ (mO I hg hm boot_zip (Ru (bU (iD ha (iD hb kh hs2) hs pos pz s σ H (fun vs H2=>match vs with
 |[x,y]=>∃(t1 t2:Bool)(a b:Addr),x=.ref a/\y=.ref b/\(∃xs,gX X.K t1 a H2 xs)/\(∃ys,gX X.K t2 b H2 ys)/\R (vS (gX X.K t1 a) (gX X.K t2 b)) H2
 |_=>False) I h) fun us s1 ⟨vs,H1,I1,r1,q1⟩=>?_) hs hpl))
 cases r1 with
|nil=>exact q1.elim
|@cons x u xs us rx rt=>cases rt with
|nil=>exact q1.elim
|@cons y u' xs' us' ry rt'=>cases rt' with
|cons _ _=>exact q1.elim
|nil=>
 obtain⟨t1,t2,a,b,rfl,rfl,⟨zs,z1⟩,⟨ws,z2⟩,q⟩:=q1;cases rx;cases ry;have la:=E8 I1 z1;have lb:=E8 I1 z2;refine JQ I1 z1 z2 fun h' hz hi ho o1 o2 kp=>WC hz ?_;refine⟨_,[s1.heap.objs.size+4,s1.heap.objs.size+2,s1.heap.objs.size+3,s1.heap.objs.size,s1.heap.objs.size+1],_,_,H1,rfl,I1.kept (t':=s1.toks) kp,NP (t1:=t1) (t2:=t2) a b _ _ _ _ _ (JC la lb) (O_ la) (O_ (UN lb)),⟨hz,hi,⟨_,_,ho⟩,Dg o1,Dg o2⟩,fun c hc=>?_,q⟩;have hge:s1.heap.objs.size<=c:=by simp only[w_,QZ,or_false]at hc;exact HE hc
 exact I1.fpOk hge (I1.hok.fresh hge)
theorem Hz(hg:Gl X "zip")(hm:X.mg "zip" = none)(ha:SE X g m e1 fa)(hb:SE X g m e2 fb)(hs:h_ [e1,e2] X.env=(false,eval e1 X.env)::h_ [e2] X.env:=by rfl)(hs2:h_ [e2] X.env=(false,eval e2 X.env)::h_ [] X.env:=by rfl)(hpl:(backTo pos (h_ [e2] X.env)).any (·.1)=false:=by rfl):jW X g m (.Tuple elts kk pos2) (.Call (.Name "zip" p) [e1,e2] [] pos) (lD fa fb):=by
 refine PI.imp (IJ hg hm ha hb hs hs2 hpl) fun σ H R ⟨r,G,si,q⟩=>⟨r,G,si,cY (c6 q) fun d q v G1 H1 w1 rv=>⟨r,G1,si.grow w1,?_⟩⟩
 refine iE (c6 q) w1 fun e q u G2 H2 w2 ru=>?_;obtain⟨ds,ed,q⟩:=dZ (c6 q);obtain⟨es,ee,q⟩:=dZ (c6 q);have rv2:=rv.mono w2.ge;have one:∀{v:V}{d:D}{ds:List D},RG X.K G2 v d->dY d=some ds->∃(t:Bool)(a:Addr),v=.ref a/\(∃xs,gX X.K t a H2 xs)/\∀G H,bY G2 G->bZ X.K G H->∃xs,gX X.K t a H xs/\dy X.K G xs ds:=by intro v d ds rv ed;cases d with
 |lst ds'=>cases ed;obtain⟨a,xs,rfl,s,rs⟩:=rv.lst w2.ok;refine⟨false,a,rfl,⟨xs,s⟩,fun G H le gk=>?_⟩;obtain⟨b,ys,e,s',r'⟩:=(rv.mono le).lst gk;cases e;exact⟨ys,s',r'⟩
 |tup ds'=>cases ed;obtain⟨a,xs,rfl,s,rs⟩:=rv.tup w2.ok;refine⟨true,a,rfl,⟨xs,s⟩,fun G H le gk=>?_⟩;obtain⟨b,ys,e,s',r'⟩:=(rv.mono le).tup gk;cases e;exact⟨ys,s',r'⟩
 |_=>cases ed
 obtain⟨t1,a,rfl,x1,y1⟩:=one rv2 ed;obtain⟨t2,b,rfl,x2,y2⟩:=one ru ee;exact⟨t1,t2,a,b,rfl,rfl,x1,x2,q _ G2 H2 (w1.trans w2) (Kh y1 y2)⟩
end
section
variable{X:Cx}{g:GE}{m m' m1 mb:List Md}{tg e a b c iter:Expr}{f fa fb:FE}{p:FQ}{pos pos':Pos}{ro:Bool}{fl:aS->Res (List D)}{sts:List Stmt}{s1:FS}
def Bz(g:GE)(a:Addr)(d:D)(u:HO):GE:=⟨gset g.gh a d,upd g.h0 a u,g.hd⟩
theorem SI.up{r:aS}{G:GH}{st:L2.St}{H:Hp}{a:Addr}{d:D}{u:HO}(s:SI X g m r G st H)(hG:G a=some d)(hH:H a=some u):SI X (Bz g a d u) m r G st H where
 gok:=s.gok
 old:=fun b o e=>by
  by_cases hb:b=a
  .subst hb;have e':upd g.h0 b u b=some o:=e;rw[du]at e';cases e';exact hH
  .have e':upd g.h0 a u b=some o:=e;rw[cM hb]at e';exact s.old b o e'
 ge:=fun b x e=>by
  by_cases hb:b=a
  .subst hb;have e':gset g.gh b d b=some x:=e;rw[fU]at e';cases e';exact hG
  .have e':gset g.gh a d b=some x:=e;rw[gl hb]at e';exact s.ge b x e'
 gf:=fun b h=>by
  show G b=gset g.gh a d b;by_cases hb:b=a
  .subst hb;rw[fU];exact hG
  .rw[gl hb];exact s.gf b fun z=>h (show upd g.h0 a u b=none by rw[cM hb];exact z)
 lm:=s.lm
 lr:=s.lr
 sh:=s.sh
 ow:=fun i x h1 h2=>by
  obtain⟨c,q1,q2,q3⟩:=s.ow i x h1 h2;refine⟨c,q1,q2,?_⟩;have hc:c≠a:=by rintro rfl;rw[q2.un]at hG;cases hG
  show upd g.h0 a u c=none;rw[cM hc];exact q3
 bw:=fun i x h1 h2=>by
  obtain⟨v,q1,q2⟩:=s.bw i x h1 h2;refine⟨v,q1,?_⟩;rcases q2 with q2|⟨c,e,q2,q3⟩
  .exact .inl q2
  .refine .inr ⟨c,e,q2,?_⟩;have hc:c≠a:=by rintro rfl;rw[q2.un]at hG;cases hG
   show upd g.h0 a u c≠none;rw[cM hc];exact q3
 dis:=s.dis
 lk:=s.lk
structure Had(g:GE)(a:Addr)(d:D)(u:HO):Prop where
 h0:∀o,g.h0 a=some o->o=u
 gh:∀x,g.gh a=some x->x=d
 gf:g.h0 a≠none->g.gh a=some d
def i8:D->D->Option D
|.lst ds,.int k=>if-(2^62)<=k/\k<2^62/\ds.length*k.toNat<=sizeLine then some (.lst ((y_ k.toNat ds).flatten))else none
|_,_=>none
theorem B6{K:W.Frag}{G:GH}{xs:List V}{ds:List D}(r:dy K G xs ds):∀n:Nat,dy K G (y_ n xs).flatten (y_ n ds).flatten
|0=>.nil
|n+1=>by rw[Rc,Rc,Rm,Rm];exact DL.Paired.app r (B6 r n)
theorem Cf(ha:SO X g m a fa)(hb:SB X g m b fb):SO X g m (.BinOp a .Mult b pos) (f2 fa fb i8):=by
 refine PE.imp (Cd Jj ha hb) fun σ H Q ⟨r,G,si,q⟩=>⟨r,G,si,cY (c6 q) fun d1 q1 p1 G1 H1 w1 hn1 o1=>⟨r,G1,si.grow w1,iE (c6 q1) w1 fun d2 q2 v2 G2 H2 w2 r2=>?_⟩⟩
 obtain⟨d,e,q3⟩:=dZ q2;have o2:=o1.mono w2;unfold i8 at e;split at e
 .split at e
  .rename_i ds k hk;cases e;cases o2.ob with
  |@lst xs _ hx rs=>have hl:=Paired.length rs;refine⟨p1,k,xs,rfl,r2.int w2.ok,hx,by omega,by omega,by rw[hl];exact hk.2.2,fun p hp=>?_⟩;have w3:=Grow.new w2.ok hp (.lst (y_ k.toNat xs).flatten);refine q3 p G2 _ ((w1.trans w2).trans w3) ?_ ⟨w2.ok.isN hp,.lst du (B6 rs _)⟩;cases e:H p with
   |none=>rfl
   |some o=>rw[(w1.trans w2).he _ _ e]at hp;cases hp
  .cases e
 .cases e
end
def jH(g:GE)(H:Hp)(fp:List Addr)(i:Nat)(p:Addr):GE:=⟨g.gh,fun b=>if b∈fp then H b else g.h0 b,fun j=>if j=i then some (some (V.ref p),none)else g.hd j⟩
def jk(K:W.Frag)(G:GH)(H:Hp)(b:Addr)(ds:List D):Prop:=∃xs,H b=some (.lst xs)/\dy K G xs ds
structure LRw(K:W.Frag)(G:GH)(H:Hp)(p:Addr)(as:List Addr)(w:List (List D)):Prop where
 out:H p=some (.lst (as.map V.ref))
 nd:(p::as).Nodup
 un:∀b∈p::as,G b=none
 rw:Paired (jk K G H) as w
theorem jk.mono{K:W.Frag}{G G':GH}{H H':Hp}{b:Addr}{ds:List D}(h:jk K G H b ds)(ge:bY G G')(he:H' b=H b):jk K G' H' b ds:=by obtain⟨xs,h1,h2⟩:=h;exact⟨xs,by rw[he];exact h1,h2.mono ge⟩
theorem Eu{α β:Type}{F F':α->β->Prop}{l:List α}{r:List β}(h:Paired F l r)(f:∀a∈l,∀b,F a b->F' a b):Paired F' l r:=by induction h with
|nil=>exact .nil
|cons h _ ih=>exact .cons (f _ k_ _ h) (ih fun a ha=>f a (m_ _ ha))
theorem LRw.isS{K:W.Frag}{G:GH}{H:Hp}{p:Addr}{as:List Addr}{w:List (List D)}(h:LRw K G H p as w){b:Addr}(hb:b∈p::as):H b≠none:=by
 rcases w_.mp hb with rfl|hb
 .rw[h.out];simp
 .have:∀{as:List Addr}{w:List (List D)},Paired (jk K G H) as w->b∈as->H b≠none:=fun{as w} q hb=>by induction q with
  |nil=>cases hb
  |cons r _ ih=>
    rcases w_.mp hb with rfl|hb
    .obtain⟨xs,e,_⟩:=r;rw[e];simp
    .exact ih hb
  exact this h.rw hb
theorem LRw.mono{K:W.Frag}{G G':GH}{H H':Hp}{p:Addr}{as:List Addr}{w:List (List D)}(h:LRw K G H p as w)(ge:bY G G')(he:∀b∈p::as,H' b=H b)(un:∀b∈p::as,G' b=none):LRw K G' H' p as w:=⟨by rw[he p k_];exact h.out,h.nd,un,Eu h.rw fun b hb ds r=>r.mono ge (he b (m_ _ hb))⟩
def GC(X:Cx)(g:GE)(i:Nat)(m:List Md)(r:aS)(w:List (List D))(G:GH)(st:L2.St)(H:Hp):Prop:=∃p as,LRw X.K G H p as w/\(∀b∈p::as,g.h0 b=none)/\SI X (jH g H (p::as) i p) m r G st H/\m[i]? = some .bw
section
variable{X:Cx}{g:GE}{i:Nat}{m m' m1:List Md}{r r':aS}{w:List (List D)}{G G':GH}{σ σ':L2.St}{H H':Hp}
abbrev QC:=aS->List (List D)->Option (aS×List (List D))
variable{st:Stmt}{sts:List Stmt}{ro:Bool}{mb:List Md}{s1:FS}{f1 f2:QC}{tg iter:Expr}{pos:Pos}
theorem Ld{K:W.Frag}{H:Hp}:∀{as:List Addr}{w:List (List D)}{G:GH},bZ K G H->Paired (jk K G H) as w->as.Nodup->(∀b∈as,G b=none)->∃G',bY G G'/\(∀b,b∉as->G' b=G b)/\bZ K G' H/\Paired (fun b ds=>G' b=some (.lst ds)) as w:=by
 intro as
 induction as with
|nil=>intro w G gk h _ _;cases h;exact⟨G,bY.refl G,fun _ _=>rfl,gk,.nil⟩
|cons b as ih=>intro w G gk h nd un;cases h with
 |@cons _ ds _ w r t=>
   rw[List.nodup_cons]at nd;have hb:=un b k_;obtain⟨xs,e,rs⟩:=r;have g1:bZ K (gset G b (.lst ds)) H:=gk.gset hb (.lst (.inl e) rs);obtain⟨G',l,o,g,q⟩:=ih g1 (Eu t fun c hc ds r=>r.mono (gU hb) rfl) nd.2 fun c hc=>by rw[gl (by rintro rfl;exact nd.1 hc)];exact un c (m_ _ hc)
   refine⟨G',bY.trans (gU hb) l,fun c hc=>?_,g,.cons (l _ _ fU) q⟩;rw[o c fun z=>hc (m_ _ z),gl (by rintro rfl;exact hc k_)]
theorem Om{G:GH}{as:List Addr}{w:List (List D)}{b:Addr}(hb:b∈as)(q:Paired (fun b ds=>G b=some (.lst ds)) as w):∃ds,G b=some (.lst ds):=by induction q with
|nil=>cases hb
|cons h _ ih=>
  rcases w_.mp hb with rfl|hb
  .exact⟨_,h⟩
  .exact ih hb
theorem Eh{fp:List Addr}{p:Addr}{d0:D}(si:SI X (jH g H fp i p) m r G σ H)(hm:m[i]? = some .bw)(h0:∀b∈fp,g.h0 b=none)(hS:∀b∈fp,H b≠none)(hb:∀j,j≠i->m[j]?≠some .bw)(le:bY G G')(g2:bZ X.K G' H)(out:∀b,b∉fp->G' b=G b)(hd:G' p=some d0):SI X g (m.set i .sh) (r.set i (some d0)) G' σ H:=by
 have hlt:i<m.length:=(c_.mp hm).1;have hst:σ[i]? = some (some (V.ref p)):=(si.lk i (some (V.ref p),none) (by show(if i=i then _ else _)=_;rw[if_pos rfl]) hm).1;have h0':∀b,b∉fp->(jH g H (fp) i p).h0 b=g.h0 b:=fun b hb=>by show(if b∈fp then H b else g.h0 b)=_;rw[if_neg hb]
 have h0i:∀b,b∈fp->(jH g H (fp) i p).h0 b≠none:=fun b hb=>by show(if b∈fp then H b else g.h0 b)≠_;rw[if_pos hb];exact hS b hb
 have nin:∀b,g.h0 b≠none->b∉fp:=fun b h z=>h (h0 b z);have mne:∀{j x},i≠j->(m.set i .sh)[j]? = some x->m[j]? = some x:=fun hij h=>by rw[f_ hij]at h;exact h
 refine⟨g2,fun a o e=>?_,fun a d e=>le a d (si.ge a d e),fun a h=>?_,by simpa using si.lm,by simpa using si.lr,fun j d h1 h2=>?_,fun j d h1 h2=>?_,fun j d h1 h2=>?_,fun j k a d e hjk h1 h2 m1 m2 z1 z2=>?_,fun j o hj hm'=>?_⟩
 .exact si.old a o (by rw[h0' a (nin a (by rw[e];simp))];exact e)
 .have hn:=nin a h;rw[out a hn];exact si.gf a (by rw[h0' a hn];exact h)
 .by_cases hij:i=j
  .subst hij;rw[n_ (by rw[si.lr,<-si.lm];exact hlt)]at h1;cases h1;exact⟨_,hst,.ref hd⟩
  .rw[f_ hij]at h1;obtain⟨v,y1,y2⟩:=si.sh j d h1 (mne hij h2);exact⟨v,y1,y2.mono le⟩
 .by_cases hij:i=j
  .subst hij;rw[n_ hlt]at h2;cases h2
  .rw[f_ hij]at h1;obtain⟨a,y1,y2,y3⟩:=si.ow j d h1 (mne hij h2);have hn:a∉fp:=fun z=>h0i a z y3;exact⟨a,y1,⟨by rw[out a hn];exact y2.un,y2.ob.mono le fun _ z=>z⟩,by rw[<-h0' a hn];exact y3⟩
 .by_cases hij:i=j
  .subst hij;rw[n_ hlt]at h2;cases h2
  .exact absurd (mne hij h2) (hb j (Sn hij))
 .have hij:i≠j:=by rintro rfl;rw[n_ hlt]at m1;cases m1
  have hik:i≠k:=by rintro rfl;rw[n_ hlt]at m2;cases m2
  rw[f_ hij]at h1;rw[f_ hik]at h2;exact si.dis j k a d e hjk h1 h2 (mne hij m1) (mne hik m2) z1 z2
 .by_cases hij:i=j
  .subst hij;rw[n_ hlt]at hm';cases hm'
  .exact absurd (mne hij hm') (hb j (Sn hij))
theorem GC.frz(s:GC X g i m r w G σ H)(hb:∀j,j≠i->m[j]?≠some .bw):∃G',bY G G'/\(∀b d,G b=none->G' b=some d->∃ds,d=.lst ds)/\SI X g (m.set i .sh) (r.set i (some (.lst (w.map D.lst)))) G' σ H:=by
 obtain⟨p,as,R,h0,si,hm⟩:=s;have nd:=RX.mp R.nd;obtain⟨G1,l1,o1,g1,q1⟩:=Ld si.gok R.rw nd.2 fun b hb=>R.un b (m_ _ hb);have hp1:G1 p=none:=by rw[o1 p nd.1];exact R.un p k_
 have rs:dy X.K G1 (as.map V.ref) (w.map D.lst):=by
  have:∀{as:List Addr}{w:List (List D)},Paired (fun b ds=>G1 b=some (.lst ds)) as w->dy X.K G1 (as.map V.ref) (w.map D.lst):=fun{as w} q=>by induction q with
  |nil=>exact .nil
  |cons h _ ih=>exact .cons (.ref h) ih
  exact this q1
 have g2:bZ X.K (gset G1 p (.lst (w.map D.lst))) H:=g1.gset hp1 (.lst (.inl R.out) rs);have le:bY G (gset G1 p (.lst (w.map D.lst))):=bY.trans l1 (gU hp1);have out:∀b,b∉p::as->gset G1 p (.lst (w.map D.lst)) b=G b:=fun b hb=>by rw[gl (by rintro rfl;exact hb k_),o1 b fun z=>hb (m_ _ z)]
 refine⟨_,le,fun b d hn e=>?_,Eh si hm h0 (fun b hb=>R.isS hb) hb le g2 out fU⟩;by_cases hbp:b=p
 .subst hbp;rw[fU]at e;cases e;exact⟨_,rfl⟩
 .rw[gl hbp]at e;by_cases hba:b∈as
  .obtain⟨ds,e1⟩:=Om hba q1;rw[e1]at e;cases e;exact⟨_,rfl⟩
  .rw[o1 b hba,hn]at e;cases e
end
def RO(K:W.Frag)(H2:Hp)(p:Addr)(G:GH)(H:Hp)(ws:List V)(ds:List D):Prop:=Paired (fun v d=>∃b,v=V.ref b/\H2 b=none/\b≠p/\Own K G H b d) ws ds/\ws.Nodup
section
variable{K:W.Frag}{H2:Hp}{p:Addr}{G G':GH}{H H':Hp}{ws:List V}{ds:List D}
theorem RO.upd{o:HO}(h:RO K H2 p G H ws ds):RO K H2 p G (L2.upd H p o) ws ds:=⟨Paired.mono (fun v d ⟨b,e,h1,h2,h3⟩=>⟨b,e,h1,h2,h3.un,h3.ob.mono (fun _ _ z=>z) fun _ z=>by rw[cM h2];exact z⟩) h.1,h.2⟩
end
section
variable{X:Cx}{g:GE}{i:Nat}{m m' m1:List Md}{r r':aS}{w:List (List D)}{G G':GH}{σ σ':L2.St}{H H':Hp}
theorem SI.row{p:Addr}{as:List Addr}(R:LRw X.K G H p as w)(si:SI X (jH g H (p::as) i p) m r G σ H)(hm:m[i]? = some .bw)(hb:∀j,j≠i->m[j]?≠some .bw){b:Addr}(hbm:b∈p::as)(o:HO):SI X (jH g (upd H b o) (p::as) i p) m r G σ (upd H b o):=by
 have un:=R.un b hbm;have h0':∀c,c∉p::as->(jH g H (p::as) i p).h0 c=g.h0 c:=fun c hc=>by show(if c∈p::as then H c else g.h0 c)=_;rw[if_neg hc]
 have h0i:∀c,c∈p::as->(jH g H (p::as) i p).h0 c=H c:=fun c hc=>by show(if c∈p::as then H c else g.h0 c)=_;rw[if_pos hc]
 have k0':∀c,c∉p::as->(jH g (upd H b o) (p::as) i p).h0 c=g.h0 c:=fun c hc=>by show(if c∈p::as then _ else g.h0 c)=_;rw[if_neg hc]
 have k0i:∀c,c∈p::as->(jH g (upd H b o) (p::as) i p).h0 c=upd H b o c:=fun c hc=>by show(if c∈p::as then upd H b o c else g.h0 c)=_;rw[if_pos hc]
 refine⟨fun c d e=>?_,fun c u e=>?_,si.ge,fun c h=>?_,si.lm,si.lr,si.sh,fun j d h1 h2=>?_,fun j d h1 h2=>?_,si.dis,si.lk⟩
 .have hc:c≠b:=by rintro rfl;rw[un]at e;cases e
  exact(si.gok c d e).mono (fun _ _ z=>z) fun u z=>by rw[cM hc];exact z
 .by_cases hc:c∈p::as
  .rw[k0i c hc]at e;exact e
  .rw[k0' c hc]at e;have hcb:c≠b:=by rintro rfl;exact hc hbm
   rw[cM hcb];exact si.old c u (by rw[h0' c hc];exact e)
 .by_cases hc:c∈p::as
  .exact si.gf c (by rw[h0i c hc];exact R.isS hc)
  .rw[k0' c hc]at h;exact si.gf c (by rw[h0' c hc];exact h)
 .obtain⟨a,q1,q2,q3⟩:=si.ow j d h1 h2;have ha:a∉p::as:=fun z=>by rw[h0i a z]at q3;exact R.isS z q3
  have hab:a≠b:=by rintro rfl;exact ha hbm
  rw[h0' a ha]at q3;exact⟨a,q1,⟨q2.un,q2.ob.mono (fun _ _ z=>z) fun u z=>by rw[cM hab];exact z⟩,by rw[k0' a ha];exact q3⟩
 .by_cases hj:j=i
  .subst hj;have:=(si.lk j (some (V.ref p),none) (by show(if j=j then _ else _)=_;rw[if_pos rfl]) hm).2 d h1;cases this
  .exact absurd h2 (hb j hj)
variable{ro:Bool}{mb:List Md}{pos p1 p2 p3 p4 p5 p6 p7 p8 p9 p10 p11:Pos}{x xa xb:Str}{jc:Nat}
end
def lessA(H:Hp)(a:Addr):Hp:=fun b=>if b=a then none else H b
theorem No{H:Hp}{a b:Addr}(h:b≠a):lessA H a b=H b:=if_neg h
theorem Grow.lessA{K:W.Frag}{G G' G2:GH}{H H' H2:Hp}{a:Addr}(w:Grow K G H G' H')(ha:H a=none)(w2:Grow K G' (lessA H' a) G2 H2):Grow K G H G2 H2:=by
 have ne:∀b,H b≠none->b≠a:=fun b h=>by rintro rfl;exact h ha
 have he:∀b o,H b=some o->DL.lessA H' a b=some o:=fun b o e=>by rw[No (ne b (by rw[e];simp))];exact w.he b o e
 refine⟨w2.ok,fun b o e=>w2.he b o (he b o e),fun b d e=>w2.ge b d (w.ge b d e),fun b h=>?_⟩;rw[w2.gf b ?_,w.gf b h];cases e:H b with
|none=>exact absurd e h
|some o=>rw[he b o e];simp
def Qz(K:W.Frag)(ro:Bool)(ms:List Md)(F:List D->Res D):Sp:=fun vs H Q _=>∃G us a ds d,bZ K G H/\vs=us++[V.ref a]/\ArgsOk K G H ms us ds/\Own K G H a d /\fin (F (ds++[d])) (fun d'=>∀v G' H',Grow K G (lessA H a) G' H'->RV ro K (lessA H a) G' H' v d'->Q v H') fun _=>False
section
variable{P:A_}{w:M_}{K:W.Frag}{mg:Str->Option a_}{base:Heap}
structure CalleeV(P:A_)(w:M_)(K:W.Frag)(mg:Str->Option a_)(base:Heap)(x:Str)(ps:List Str)(k:Nat)(ro:Bool)(ms:List Md)(F:List D->Res D):Prop where
 ex:∃f fd,mg x=some (.ref f)/\W.keepIn K (.ref f)=true/\ik K fd ps []/\FnOk P w K mg base dN k f fd ps (Qz K ro ms F)
end
inductive Cln:D->Prop where
 |non:Cln .non
 |bl (b:Bool):Cln (.bl b)
 |int (i:Int):Cln (.int i)
 |str (x:Str):Cln (.str x)
 |tup {ds:List D}:(∀d∈ds,Cln d)->Cln (.tup ds)
theorem Cln.lst{ds:List D}(h:Cln (.lst ds)):False:=nomatch h
theorem Cln.dic{ds:List (bQ×D)}(h:Cln (.dic ds)):False:=nomatch h
theorem Cln.get{ds:List D}(h:Cln (.tup ds)):∀d∈ds,Cln d:=by cases h with
|tup h=>exact h
structure TL(K:W.Frag)(G:GH)(H:Hp)(p a:Addr)(d1:D)(ds:List D):Prop where
 tp:∃x xs,H p=some (.tup [x,.ref a])/\RG K G x d1/\H a=some (.lst xs)/\dy K G xs ds
 un:∀b∈[p,a],G b=none
 ne:p≠a
theorem TL.isS{K:W.Frag}{G:GH}{H:Hp}{p a:Addr}{d1:D}{ds:List D}(t:TL K G H p a d1 ds):∀b∈[p,a],H b≠none:=fun b hb=>by
 obtain⟨x,xs,h1,_,h2,_⟩:=t.tp;rcases w_.mp hb with rfl|hb
 .rw[h1];simp
 .rw[u_.mp hb,h2];simp
def RW(K:W.Frag)(H0:Hp)(G:GH)(H:Hp)(v:V)(d:D):Prop:=∃p a d1 ds,v=.ref p/\d=.tup [d1,.lst ds]/\(∀b∈[p,a],H0 b=none)/\TL K G H p a d1 ds
def Qy(K:W.Frag)(ms:List Md)(F:List D->Res D):Sp:=fun vs H Q _=>∃G ds,bZ K G H/\ArgsOk K G H ms vs ds/\fin (F ds) (fun d=>∀v G' H',Grow K G H G' H'->RW K H G' H' v d->Q v H') fun _=>False
abbrev FW:=aS->Res D
section
variable{P:A_}{w:M_}{K:W.Frag}{mg:Str->Option a_}{base:Heap}
structure CalleeW(P:A_)(w:M_)(K:W.Frag)(mg:Str->Option a_)(base:Heap)(x:Str)(ps:List Str)(k:Nat)(ms:List Md)(F:List D->Res D):Prop where
 ex:∃f fd,mg x=some (.ref f)/\W.keepIn K (.ref f)=true/\ik K fd ps []/\FnOk P w K mg base dN k f fd ps (Qy K ms F)
end
section
variable{X:Cx}{g:GE}{ro:Bool}{i:Nat}{m m' m1 mb ms:List Md}{r r':aS}{G G':GH}{σ σ':L2.St}{H H':Hp}{e c:Expr}{es:List Expr}{q:FQ}{st:Stmt}{sts sts1:List Stmt}{fl:aS->Res (List D)}{F:List D->Res D}{k:Nat}{ps:List Str}{pos p1 p2 p3 p4 apos cpos:Pos}{x y:Str}{d1:D}{ds:List D}
def GB(X:Cx)(g:GE)(i:Nat)(m:List Md)(r:aS)(d1:D)(ds:List D)(G:GH)(st:L2.St)(H:Hp):Prop:=∃p a,TL X.K G H p a d1 ds/\(∀b∈[p,a],g.h0 b=none)/\SI X (jH g H [p,a] i p) m r G st H/\m[i]? = some .bw
theorem GB.frz(s:GB X g i m r d1 ds G σ H)(hb:∀j,j≠i->m[j]?≠some .bw):∃G',bY G G'/\(∀b d,G b=none->G' b=some d->¬ Cln d)/\SI X g (m.set i .sh) (r.set i (some (.tup [d1,.lst ds]))) G' σ H:=by
 obtain⟨p,a,t,h0,si,hm⟩:=s;obtain⟨x,xs,h1,h2,h3,h4⟩:=t.tp;have ua:=t.un a (m_ _ k_);have up:=t.un p k_;have g1:bZ X.K (gset G a (.lst ds)) H:=si.gok.gset ua (.lst (.inl h3) h4);have up1:gset G a (.lst ds) p=none:=by rw[gl t.ne];exact up
 have g2:bZ X.K (gset (gset G a (.lst ds)) p (.tup [d1,.lst ds])) H:=g1.gset up1 (.tup (.inl h1) (.cons (h2.mono (gU ua)) (.cons (.ref fU) .nil)));refine⟨_,bY.trans (gU ua) (gU up1),fun b d hn e hc=>?_,Eh si hm h0 t.isS hb (bY.trans (gU ua) (gU up1)) g2 (fun b hb=>?_) fU⟩
 .by_cases hbp:b=p
  .subst hbp;rw[fU]at e;cases e;exact(hc.get _ (m_ _ k_)).lst
  .rw[gl hbp]at e;by_cases hba:b=a
   .subst hba;rw[fU]at e;cases e;exact hc.lst
   .rw[gl hba,hn]at e;cases e
 .rw[gl (by rintro rfl;exact hb k_),gl (by rintro rfl;exact hb (m_ _ k_))]
end
end DL
section
namespace DL
section
open PySem PyProof.Rows PySem.W PySem.Calls
variable{prog:A_}{w:M_}{A:K_}{E:a_->d_->Prop}{s:d_}{l:Addr}{vs:List a_}{ns:List Int}
end
open PySem PySem.Spec PyProof.Rows L2
end DL
end
section
namespace DL
section
open PySem PyProof.Rows
variable{prog:A_}{w:M_}{A:K_}{R:Yb->d_->Prop}{I S:Addr}{fp wr:List Addr}{n:Nat}{P:Nat->a_->Prop}{St:Nat->Heap->Prop}{TP:Heap->Prop}{bt:Nat->Nat->Bool}
def sr(wr:List Addr)(S:Addr)(h h':Heap):Prop:=∀b o,b∉wr->b≠S->h.get? b=some o->h'.get? b=some o
theorem sr.trans{h h1 h2:Heap}(a:sr wr S h h1)(b:sr wr S h1 h2):sr wr S h h2:=fun c o hc hs e=>b c o hc hs (a c o hc hs e)
end
end DL
end
namespace DL
open PySem PySem.Spec PyProof.Rows L2
end DL
namespace DL
open PySem PySem.Spec PyProof.Rows L2 PySem.W PySem.Calls
def Gw(K:W.Frag)(ro:Bool)(ms:List Md)(F:List D->Res D):Sp:=fun vs H Q E=>∃G ds,bZ K G H/\ArgsOk K G H ms vs ds /\fin (F ds) (fun d=>∀v G' H',Grow K G H G' H'->RV ro K H G' H' v d->Q v H') fun x=>∀C od nm fs G' H',x=xD nm fs->XN K nm C->XF G' od fs->Grow K G H G' H'->E (.ref C) od H'
section
variable{X:Cx}{k:Nat}{f:Addr}{fd:Q7}{ps:List Str}{sp:Sp}{dvs:List V}{ds:List a_}{x:Str}{p pos:Pos}{e:Expr}{es:List Expr}{t:TA}
def BO(X:Cx)(σ:L2.St)(H:Hp)(E:XK):Prop:=∀pz s a cls od H' s',Inv X pz σ H s->Fly X.prog X.w X.stack H s H' a cls od s'->E cls od H'->X.xe (.ref a) s'
theorem LZ{pz:List (Addr×Obj)}{σ:L2.St}{H:Hp}{s:d_}{Q:VK}{E:XK}{us:List a_}{vs:List V}(F:FnOk X.prog X.w X.K X.mg X.base (mz X.prog X.w) k f fd ps sp)(hr:Room k X.A)(hb:ik X.K fd ps ds)(hd:aU dvs ds)(I:Inv X pz σ H s)(hx:BO X σ H E)(r:aU vs us)(h:sp (vs++dvs) H Q E):q_ (D_ X.prog X.w) X.A (call (.ref f) us) (EP X pz σ Q) X.xe s:=by
 have r2:aU (vs++dvs) (us++ds):=r.append hd;have hl:(us++ds).length=ps.length:=by rw[<-r2.length];exact F.len _ _ _ _ h
 refine Ta (TF (F.run X.A X.stack s H ⟨us,[]⟩ (us++ds) (vs++dvs) Q E hr I.env0 (hb s us I.kIn hl) r2 h) fun r s' hq=>?_);cases r with
|error e=>obtain⟨a,cls,H',od,rfl,fl,q⟩:=hq;exact hx pz s a cls od H' s' I fl q
|ok fl=>cases fl with
 |ret u=>exact I.after hq
 |next=>exact QF hq
 |brk=>exact QF hq
 |cont=>exact QF hq
theorem M8(F:FnOk X.prog X.w X.K X.mg X.base (mz X.prog X.w) k f fd ps sp)(hr:Room k X.A)(hg:Gl X x)(hm:X.mg x=some (.ref f))(hk:W.keepIn X.K (.ref f)=true)(hb:ik X.K fd ps ds)(hd:aU dvs ds)(ha:PA X (e::es) t)(hdb:(x==("__debug__" : Str))=false:=by decide)(he:h_ (e::es) X.env=(false,eval e X.env)::h_ es X.env:=by rfl)(hpl:(backTo pos (h_ es X.env)).any (·.1)=false:=by rfl):PE X (.Call (.Name x p) (e::es) [] pos) (fun σ H Q=>t σ H fun vs H1=>∃E,sp (vs++dvs) H1 Q E/\BO X σ H1 E):=by intro pz s σ H Q I h;refine R7 (l7 I hg hm ?_ hdb);refine W.callWith_K (h₀:=X.base) I.ok.mod.kin hk (bU (ha pos pz s σ H _ I h) fun us s1 ⟨vs,H1,I1,r,E,q,px⟩=>⟨I1.kIn,?_⟩) he hpl;exact LZ F hr hb hd I1 px r q
end
section
variable{P:A_}{w:M_}{K:W.Frag}{mg:Str->Option a_}{base:Heap}
theorem Lb{x qual:Str}{st:Stmt}{f:Addr}{fd:Q7}{N ps:List Str}{k:Nat}{ro:Bool}{ms:List Md}{fs:FS}{m':List Md}(F:Fun K x qual st f fd)(S:FnScope N ps (aM st))(hms:ms.length=ps.length)(hbody:∀(cdv:a_)(A:K_)(outer:List Env)(s:d_)(H:Hp)(g:GE)(E:XK),Room k (A.deeper (Sj qual (aM st) s.heap.objs.size f cdv)) ->fP (cX (mz P w) P w K mg base N qual (aM st) f cdv A outer s H E) g ro [] (i4 N.length ms) (aW st) fs m'):FnOk P w K mg base (mz P w) (k+1) f fd ps (Gw K ro ms fun ds=>bP ro (fs (cO N.length ds))):=by
 obtain⟨oc,od,kV,doc,pm,an,cdv,ct,osl,rfl,lk,hcd⟩:=F.ex;refine rO lk hcd S (fun vs H Q E ⟨G,ds,gk,rs,q⟩=>rs.len.1.trans hms) fun A outer s H vs Q E hr h=>?_;obtain⟨G,ds,gk,rs,q⟩:=h;have hpl:ps.length<=N.length:=by have:=congrArg Tw S.pre;rw[QM]at this;omega
 refine⟨_,(hbody cdv A outer s H ⟨G,H,fun _=>none⟩ E hr).2,cO N.length ds,G,qd gk rs (by omega),?_⟩;replace q:fin (bP ro (fs (cO N.length ds))) _ _:=q;cases e:fs (cO N.length ds)with
|nx r'=>rw[e]at q;cases ro with
 |false=>exact fun σ' G' H' _ si=>q .non G' H' si.grown (.scl .non)
 |true=>exact q.elim
|rt d=>rw[e]at q;exact fun v G' H' wg rv=>q v G' H' wg rv
|bk r'=>rw[e]at q;exact q.elim
|ct r'=>rw[e]at q;exact q.elim
|exc x r'=>rw[e]at q;intro pz ev s' σ' G' H' le si I ex;obtain⟨pins1,s1,H1,a,C,od1,nm,fs1,rfl,rfl,xn,xf,I1,fl⟩:=ex;exact fl.leaves I1 rfl rfl rfl fun s'' fl2=>⟨a,_,H',od1,rfl,fl2,q C od1 nm fs1 G' H' rfl xn xf si.grown⟩
|stuck=>rw[e]at q;exact q
structure CalleeX(P:A_)(w:M_)(K:W.Frag)(mg:Str->Option a_)(base:Heap)(x:Str)(ps:List Str)(ds:List a_)(k:Nat)(ro:Bool)(ms:List Md)(F:List D->Res D):Prop where
 ex:∃f fd,mg x=some (.ref f)/\W.keepIn K (.ref f)=true/\ik K fd ps ds/\FnOk P w K mg base (mz P w) k f fd ps (Gw K ro ms F)
theorem DI{x:Str}{st:Stmt}{N ps:List Str}{k:Nat}{ro:Bool}{ms:List Md}{fs:FS}{m':List Md}(A:DefAt K mg x st)(S:FnScope N ps (aM st))(hms:ms.length=ps.length)(hb:∀(kV doc pm:a_)(an:Option Addr)(cdv ct:a_)(us:List a_),us.length=ps.length->Tk (W.fnOf x x (bS st) (aW st) (aM st) .none kV doc pm an cdv ct) ⟨us,[]⟩=pure (ps.zip us))(hbody:∀(f:Addr)(cdv:a_)(A:K_)(outer:List Env)(s:d_)(H:Hp)(g:GE)(E:XK),Room k (A.deeper (Sj x (aM st) s.heap.objs.size f cdv)) ->fP (cX (mz P w) P w K mg base N x (aM st) f cdv A outer s H E) g ro [] (i4 N.length ms) (aW st) fs m'):CalleeX P w K mg base x ps [] (k+1) ro ms fun ds=>bP ro (fs (cO N.length ds)):=by obtain⟨f,fd,h1,F⟩:=A.ex;exact⟨f,fd,h1,F.kp,F.binds hb,Lb F S hms (hbody f)⟩
end
section
variable{X:Cx}{g:GE}{ro:Bool}{m mb:List Md}{e:Expr}{es:List Expr}{fl:aS->Res (List D)}{k:Nat}{ps:List Str}{F:List D->Res D}{dvs:List V}{ds:List a_}{dds:List D}{x:Str}{p np pos:Pos}{ms:List Md}{C:Addr}
def gZ(fl:aS->Res (List D))(dds:List D)(F:List D->Res D):FE:=fun r=>(fl r).bind fun ds=>F (ds++dds)
theorem Lu(c:CalleeX X.prog X.w X.K X.mg X.base x ps ds k false (ms++y_ dds.length .sh) F)(hr:Room k X.A)(hd:aU dvs ds)(hsc:Paired Scl dvs dds)(ha:jX X g m (e::es) ms fl)(hg:Gl X x:=by rfl)(hdb:(x==("__debug__" : Str))=false:=by decide)(he:h_ (e::es) X.env=(false,eval e X.env)::h_ es X.env:=by rfl)(hpl:(backTo pos (h_ es X.env)).any (·.1)=false:=by rfl):SE X g m (.Call (.Name x p) (e::es) [] pos) (gZ fl dds F):=by
 obtain⟨fa,fd,h1,h2,h3,G1⟩:=c.ex;refine PE.imp (M8 G1 hr hg h1 h2 h3 hd ha hdb he hpl) fun σ H Q ⟨r,G,si,q⟩=>⟨r,G,si,?_⟩
 cases ez:fl r with
|ok zs=>
  unfold gZ at q;rw[ez]at q;intro vs G' H' w' rs;refine⟨fun cls od H2=>∃C nm fs G2,cls=.ref C/\F (zs++dds)=.exc (xD nm fs)/\XN X.K nm C/\XF G2 od fs/\Grow X.K G' H' G2 H2,⟨G',zs++dds,w'.ok,rs.app hsc,?_⟩,?_⟩
  .cases ef:F (zs++dds)with
  |ok d=>replace q:fin (F (zs++dds)) _ _:=q;rw[ef]at q;exact fun v G2 H2 w2 rv=>q v G2 H2 (w'.trans w2) rv
  |exc y=>exact fun C od nm fs G2 H2 hy xn xf w2=>⟨C,nm,fs,G2,rfl,by rw[hy],xn,xf,w2⟩
  |stuck=>replace q:fin (F (zs++dds)) _ _:=q;rw[ef]at q;exact q
  .intro pz s a cls od H2 s' I fl ⟨C,nm,fs,G2,hc,ef,xn,xf,w2⟩;subst hc;replace q:fin (F (zs++dds)) _ _:=q;rw[ef]at q;exact q pz (.ref a) s' G2 H2 (w'.trans w2) (fl.inv I) ⟨pz,s,H',a,C,od,nm,fs,rfl,rfl,xn,xf,I,fl⟩
|exc x=>unfold gZ at q;rw[ez]at q;exact q
|stuck=>unfold gZ at q;rw[ez]at q;exact q
def lv(m:List Md)(nm:Str)(fl:aS->Res (List D)):FS:=fun r=>onE m r (fl r) fun ds=>if ds.length<=100 then .exc (xD nm []) (forget m r)else .stuck
theorem Lw{nm:Str}(hc:X.calm=true)(c:XC X.K X.mg x C)(xn:XN X.K nm C)(hg:Gl X x)(ha:SA X g m (e::es) fl)(hdb:(x==("__debug__" : Str))=false:=by decide)(he:h_ (e::es) X.env=(false,eval e X.env)::h_ es X.env:=by rfl)(hpl:(backTo p (h_ es X.env)).any (·.1)=false:=by rfl):SS X g ro mb m (.Raise (some (.Call (.Name x np) (e::es) [] p)) none pos) (lv m nm fl) m:=by
 refine⟨rfl,fun pz s σ H D I ⟨r,G,si,q⟩=>?_⟩;refine ME I hc c hg ha ⟨r,G,si,?_⟩ hdb he hpl;refine cY (ip si rfl q) fun ds q vs G' H' w' rs=>?_;have hl:vs.length=ds.length:=Paired.length rs;split at q
 .rename_i h100;refine⟨by rw[hl];exact QI h100 (by decide),fun s1 a s' I1 fl=>?_⟩;exact q pz (.ref a) s' σ G' H' w'.ge (by have:=(si.grow w').forget;exact this) (fl.inv I1) ⟨pz,s1,H',a,C,none,nm,[],rfl,rfl,xn,rfl,I1,fl⟩
 .exact q.elim
end
section
variable{M:V7}{A:K_}{E:a_->d_->Prop}{s:d_}{nm q nmT qT:Str}{C N T NT:Addr}{bs bm bsT bmT:List a_}{hdct hdctT:Bool}{sn snT:List Str}{sub subT':List a_}{ab abT:Bool}{col colT:Option Bool}{dd ddT:Option Addr}{k0 k1 k2 k3 k5 t0 t1 t2 t3 t5:Option a_}{newId newIdT:String}
theorem PU{e:Addr}{oe:Obj}{Q:Bool->d_->Prop}(hC:s.heap.get? C=some (Q2 nm q C N bs bm hdct sn sub ab col dd k0 k1 k2 k3 k5 newId))(hT:s.heap.get? T=some (Q2 nmT qT T NT bsT bmT hdctT snT subT' abT colT ddT t0 t1 t2 t3 t5 newIdT))(he:s.heap.get? e=some oe)(hc:oe.cls=.ref C)(hb:bmT.contains (Value.type "BaseException")=true)(hq:Q ((Value.ref C::bm).contains (.ref T)) s):q_ M A (excMatches (.ref e) (.ref T)) Q E s:=by unfold excMatches;refine b_ (WA (T := "type") (b:=false) ⟨_,hT,rfl⟩ (by rw[isSubtype_type];kernel_rfl) ?_);rw[if_neg i_];refine b_ (j_ ?_);simp only[Ts,Vx];refine b_ (b_ ?_);unfold isExcClass isType;refine b_ (b_ (b_ (TR hT (j_ ?_))));rw[if_pos rfl];obtain⟨hh,hg,hdr,ht,ho⟩:=s;refine RZ hT ?_;rw[R8,hb,TM];rw[if_neg (by simp)];refine j_ (j_ ?_);refine b_ ?_;unfold Wu;refine b_ (TR he (j_ ?_));rw[hc];refine b_ (b_ (b_ (RZ hC ?_)));cases hm:(Value.ref C::bm).contains (Value.ref T)with
|true=>rw[hm]at hq;rw[if_pos rfl];exact j_ (j_ (j_ hq))
|false=>rw[hm]at hq;rw[if_neg i_];exact j_ (j_ (j_ hq))
end
section
variable{X:Cx}{pz:List (Addr×Obj)}{σ:L2.St}{H H':Hp}{s s':d_}{M:V7}{A:K_}{E:a_->d_->Prop}
theorem Inv.unbind{i:Nat}{n:Str}{h':Heap}{u:Option a_}{m:Str->Option a_}(I:Inv X pz σ H s)(hN:X.N.Nodup)(hi:X.N[i]? = some n)(hm:s.heap.Ns X.env.locals m)(hn:h'.Ns X.env.locals fun x=>if x=n then u else m x)(sb:Um X.env.locals s.heap h')(hl:∀x v,m x=some v->True):Inv X pz (σ.set i none) H { heap:=h',gens:=s.gens,drawn:=s.drawn,toks:=s.toks,os:=s.os }:=by
 have nl:∀b o,X.s₀.heap.get? b=some o->b≠X.env.locals:=fun b o e z=>by have h1:=s_ e;have h2:=I.ok.above;rw[z]at h1;exact absurd h1 (Nat.not_lt.mpr h2)
 have cl:∀{c v},s.heap.IsCell c v->h'.IsCell c v:=fun{c v} hc=>by
  have hne:c≠X.env.locals:=by intro z;obtain⟨o,e1,e2⟩:=hc;obtain⟨o',es,ep,ho,r⟩:=hm;rw[z,ho]at e1;cases e1;rw[r.1]at e2;cases e2
  obtain⟨o,e1,e2⟩:=hc;exact⟨o,(sb.2 c hne).trans e1,e2⟩
 refine⟨I.ok,I.os,I.bare,⟨fun b o e n f z=>(sb.2 b (nl b o e)).trans (I.base.keep b o e n f z),fun b o e n f z=>?_,I.base.free,fun b o e z=>?_,I.base.tups,I.base.frzs,I.base.tbls⟩,?_,fun x c hc=>?_,I.free,I.freeC,fun p hp=>?_,fun b o e=>?_,by rw[SN];exact I.len⟩
 .obtain⟨sl,e1⟩:=I.base.slot b o e n f z;exact⟨sl,(sb.2 b (nl b o e)).trans e1⟩
 .obtain⟨o',e1⟩:=I.base.there b o e z;exact⟨o',(sb.2 b (nl b o e)).trans e1⟩
 .obtain⟨m0,hm0,lk⟩:=I.loc;refine⟨_,hn,fun j x v hj hv vis=>?_⟩;have hij:i≠j:=by
   rintro rfl
   rw[Wh,if_pos rfl]at hv;split at hv <;> cases hv
  rw[f_ hij]at hv;obtain⟨w,rw',lo⟩:=lk j x v hj hv vis;have hxn:x≠n:=by
   rintro rfl
   exact hij ((List.getElem?_inj (c_.mp hi).1 hN).mp (hi.trans hj.symm))
  refine⟨w,rw',?_⟩;rcases lo with⟨k,e⟩|⟨k,c,hc,ic⟩
  .refine .inl ⟨k,?_⟩;show(if x=n then u else m x)=some w;rw[if_neg hxn,hm.agree hm0];exact e
  .exact .inr ⟨k,c,hc,cl ic⟩
 .obtain⟨v,hv⟩:=I.cell x c hc;exact⟨v,cl hv⟩
 .obtain⟨p1,p2,p3,p4,p5⟩:=I.pin p hp;exact⟨(sb.2 _ p3).trans p1,p2,p3,p4,p5⟩
 .have hb:∀c u,H c=some u->c≠X.env.locals:=fun c u e z=>by rw[z,I.free]at e;cases e
  refine(I.hok b o e).stay (fun c v hc e1=>(sb.2 c ?_).trans e1) (fun _ z=>z) fun _ _ z=>z;rcases hc with z|z
  .rw[z];exact hb b o e
  .exact hb c _ z
theorem O7{i:Nat}{n:Str}{pos:Pos}{v:V}{Q:Unit->d_->Prop}(I:Inv X pz σ H s)(hN:X.N.Nodup)(hi:X.N[i]? = some n)(hv:σ[i]? = some (some v))(hl:X.env.kindOf n=some NameKind.local)(hsc:X.env.scope.names.lookup n=some .local)(q:∀s',Inv X pz (σ.set i none) H s'->Q () s'):q_ M A (Ua X.env n pos) Q E s:=by
 unfold Ua;refine T7 ?_;obtain⟨m,hm,lk⟩:=id I.loc;obtain⟨w,rw',lo⟩:=lk i n v hi hv (.inl hsc);have hmn:m n=some w:=by
  rcases lo with⟨_,e⟩|⟨k,_⟩
  .exact e
  .rw[hl]at k;rcases k with k|k <;> cases k
 refine wpAny_unbindName_local hl hm hmn ?_ fun h' u hn sb=>q _ (Inv.unbind I hN hi hm hn sb fun _ _ _=>trivial);rw[I.ok.kind];rfl
end
def XO(K:W.Frag)(C:Addr)(bm:List a_):Prop:=∃N nm q bs hdct sn sub ab col dd k0 k1 k2 k3 k5 newId,K.lookup C=some (Q2 nm q C N bs bm hdct sn sub ab col dd k0 k1 k2 k3 k5 newId)
abbrev _root_.L2.Cx.held(X:Cx)(v:a_):Cx:={ X with A:=X.A.mark (some v),calm:=false,xe:=fun _ _=>False }
section
variable{X:Cx}{pz:List (Addr×Obj)}{σ:L2.St}{H H':Hp}{s s':d_}{a C:Addr}{od:Option Addr}
theorem Inv.held(I:Inv X pz σ H s)(v:a_):Inv (X.held v) pz σ H s:=⟨⟨I.ok.mod,I.ok.kind,I.ok.glob,I.ok.blt,I.ok.above,I.ok.inj,I.ok.has,I.ok.cab,(fun h=>nomatch h),I.ok.frames,I.ok.stk,I.ok.exf,I.ok.bs,I.ok.bsz,I.ok.noex,I.ok.exfs,I.ok.funs,I.ok.frf⟩,I.os,I.bare,I.base,I.loc,I.cell,I.free,I.freeC,I.pin,I.hok,I.len⟩
theorem Inv.unheld{v:a_}(hh:X.calm=true->X.A.handled=none)(I:Inv (X.held v) pz σ H s):Inv X pz σ H s:=⟨⟨I.ok.mod,I.ok.kind,I.ok.glob,I.ok.blt,I.ok.above,I.ok.inj,I.ok.has,I.ok.cab,hh,I.ok.frames,I.ok.stk,I.ok.exf,I.ok.bs,I.ok.bsz,I.ok.noex,I.ok.exfs,I.ok.funs,I.ok.frf⟩,I.os,I.bare,I.base,I.loc,I.cell,I.free,I.freeC,I.pin,I.hok,I.len⟩
theorem Fly.noted{E:a_->d_->Prop}{M:V7}{Q:Unit->d_->Prop}(F:Fly X.prog X.w X.stack H s H' a (.ref C) od s')(I:Inv X pz σ H s)(hst:X.stack=X.env::X.outer)(hfr:X.env.frame=some X.env.locals)(q:∀h' oe vs tb ot ts,Inv X pz σ (upd H' a (.ext (jB a C od))) { heap:=h',gens:=s'.gens,drawn:=s'.drawn,toks:=s'.toks,os:=s'.os }->H' a=none->h'.get? a=some oe->oe.cls=.ref C->oe.data=.fields vs->vs[1]? = some (.ref tb)->h'.get? tb=some ot->ot.data=.fields ts->ts[3]? = some Value.none ->Q () { heap:=h',gens:=s'.gens,drawn:=s'.drawn,toks:=s'.toks,os:=s'.os }):q_ M X.A (TZ (.ref a) X.env) (fun _ s2=>q_ M X.A (SX (.ref a) none) Q E s2) E s':=by
 obtain⟨B,hB,hBa,hff,⟨oe,vs,r1,r2,r3,r4,r5⟩,hd,hH⟩:=F.ex;have hHa:H' a=none:=by cases e:H' a with
 |none=>rfl
 |some u=>obtain⟨o',z⟩:=hH a u e;rw[hBa]at z;cases z
 have haf:a∉dw X.stack:=fun z=>by obtain⟨_,o,e1,nf⟩:=hff.mem z;rw[r1]at e1;cases e1;exact nf vs r4
 have hs1:1<vs.size:=by rcases r5 with z|⟨_,_,_,z,_⟩|⟨_,_,_,_,_,z,_⟩ <;> exact(Rf.mp z).1
 have sna:∀b o,s.heap.get? b=some o->b≠a:=fun b o e z=>by rw[z]at e;obtain⟨o',z2⟩:=hd a o e haf;rw[hBa]at z2;cases z2
 have fin:∀(T:Option Addr) h',(∀b,T=some b->B.get? b=none)->Lft (dw (X.env::X.outer)) a oe vs T Value.none s'.heap h'->Q () { heap:=h',gens:=s'.gens,drawn:=s'.drawn,toks:=s'.toks,os:=s'.os }:=fun T h' hT l=>by
  rw[<-hst]at l;have same:∀b o,(∃o',B.get? b=some o')->s'.heap.get? b=some o->h'.get? b=some o:=fun b o ⟨o',e⟩ h=>by refine l.keep b o (fun z=>?_) (fun z=>by rw[z,hBa]at e;cases e) (fun z=>by rw[hT b z]at e;cases e) h;rw[(hff.mem z).1]at e;cases e
  obtain⟨tb,ot,ts,t1,t2,t3,t4,t5,t6⟩:=l.obj;have hok1:dR X.prog X.w H' h':=fun b u e=>by
   refine(F.hok b u e).stay (fun c v hc e1=>same c v ?_ e1) (fun _ z=>z) fun _ _ z=>z;rcases hc with hc|hc
   .rw[hc];exact hH b u e
   .exact hH c _ hc
  have hne:∀b u,H' b=some u->b≠a:=fun b u e z=>by rw[z,hHa]at e;cases e
  have hok2:dR X.prog X.w (upd H' a (.ext (jB a C od))) h':=fun b u e=>by
   by_cases hb:b=a
   .subst hb;rw[du]at e;cases e;exact⟨⟨_,_,t3,r2,r3,rfl⟩,⟨_,t3⟩,fun h1 h2 ⟨oe',vs',z1,z2,z3,z4⟩ k=>⟨oe',vs',k _ z1,z2,z3,z4⟩⟩
   .rw[cM hb]at e;refine(hok1 b u e).stay (fun _ _ _ z=>z) (fun c z=>?_) fun c xs z=>?_
    .rw[cM (hne c _ z)];exact z
    .rw[cM (hne c _ z)];exact z
  have I2:Inv X pz σ (upd H' a (.ext (jB a C od))) { heap:=h',gens:=s'.gens,drawn:=s'.drawn,toks:=s'.toks,os:=s'.os }:=by
   refine I.call' (ch:=[]) F.os ⟨fun b o e n f z=>?_,fun b o e n f z=>?_,fun b o e n z=>?_,fun b o e z=>?_,fun b xs e=>?_,fun b o u e=>?_,fun b ps e=>?_⟩ hok2 F.bare fun b z=>absurd z (by simp)
   .exact same b o (hd b o e f) (F.un.keep b o e n f z)
   .obtain⟨sl,e1⟩:=F.un.slot b o e n f z;obtain⟨_,o2,e2,nf⟩:=hff.mem f;rw[e1]at e2;cases e2;obtain⟨sl2,e3⟩:=l.slot b _ e1 nf;exact⟨sl2,e3⟩
   .rw[cM (sna b o e)];exact F.un.free b o e n z
   .obtain⟨o1,e1⟩:=F.un.there b o e z;by_cases f:b∈dw X.stack
    .obtain⟨_,o2,e2,nf⟩:=hff.mem f;obtain⟨sl,e3⟩:=l.slot b _ e2 nf;exact⟨_,e3⟩
    .exact⟨o1,same b o1 (hd b o e f) e1⟩
   .have:=F.un.tups b xs e;rw[cM (hne b _ this)];exact this
   .have:=F.un.frzs b o u e;rw[cM (hne b _ this)];exact this
   .obtain⟨mo,this⟩:=F.un.tbls b ps e;exact⟨mo,by rw[cM (hne b _ this)];exact this⟩
  exact q h' _ _ tb ot ts I2 hHa t3 r2 rfl (QD hs1) t4 t5 t6
 have nt2:q_ M X.A (TZ (.ref a) X.env) (fun _ s2=>rW a s2.heap/\q_ M X.A (SX (.ref a) none) Q E s2) E s'->q_ M X.A (TZ (.ref a) X.env) (fun _ s2=>q_ M X.A (SX (.ref a) none) Q E s2) E s':=fun z=>QP z (fun _ _ z=>z.2) fun _ _ z=>z;have hff2:=hff;rw[hst]at hff2;rcases r5 with z|⟨T,oT,ts,z1,z2,z3,z4,z5,z6⟩|⟨l,T,oT,ts,zl,z1,z2,z3,z4,z5,z6⟩
 .exact nt2 (sS (T:=none) (by rw[I.ok.frames,hst]) hff2 hfr r1 r4 (fl:=none) (.inl ⟨z,rfl⟩) fun h' l=>fin none h' (fun b e=>nomatch e) l)
 .exact nt2 (sS (T:=some T) (by rw[I.ok.frames,hst]) hff2 hfr r1 r4 (fl:=none) (.inr (.inl ⟨T,oT,ts,rfl,z1,z3,z4,z5,z6⟩)) fun h' l=>fin (some T) h' (fun b e=>by cases e;exact z2) l)
 .have hl:l=X.env.locals:=by unfold nA at zl;rw[hst]at zl;exact(z_ (hfr.symm.trans (show X.env.frame=some l from zl))).symm
  subst hl;exact nt2 (sS (T:=some T) (by rw[I.ok.frames,hst]) hff2 hfr r1 r4 (fl:=none) (.inr (.inr ⟨T,oT,ts,rfl,z1,z3,z4,z5,z6⟩)) fun h' l=>fin (some T) h' (fun b e=>by cases e;exact z2) l)
end
section
variable{X:Cx}{pz:List (Addr×Obj)}{σ:L2.St}{H H':Hp}{s s':d_}{a C T:Addr}{od:Option Addr}
theorem L3{i:Nat}{n xT:Str}{bm bmT:List a_}{np hpos:Pos}{b₀:Stmt}{suite:List Stmt}{t:TS}{D:Ends}{rest:List ExceptHandler}(F:Fly X.prog X.w X.stack H s H' a (.ref C) od s')(I:Inv X pz σ H s)(hst:X.stack=X.env::X.outer)(hfr:X.env.frame=some X.env.locals)(hcalm:X.calm=true)(cT:X.mg xT=some (.ref T))(oT:XO X.K T bmT)(hbT:bmT.contains (Value.type "BaseException")=true)(oC:XO X.K C bm)(hit:(Value.ref C::bm).contains (.ref T)=true)(hg:Gl X xT)(hN:X.N.Nodup)(hi:X.N[i]? = some n)(hl:X.env.kindOf n=some NameKind.local)(hsc:X.env.scope.names.lookup n=some .local)(hs:eY (X.held (.ref a)) (b₀::suite) t)(q:H' a=none->t { nx:=fun σ' H2=>D.nx (σ'.set i none) H2,rt:=fun _ _=>False } (σ.set i (some (.ref a))) (upd H' a (.ext (jB a C od))))(hdb:(xT==("__debug__" : Str))=false:=by decide):q_ (D_ X.prog X.w) X.A (TZ (.ref a) X.env) (fun _ s₂=>q_ (D_ X.prog X.w) X.A (SX (.ref a) none) (fun _ s₃=>q_ (D_ X.prog X.w) X.A (handleBy (.ref a) X.env (.ExceptHandler (some (.Name xT np)) (some n) (b₀::suite) hpos::rest)) (SP X pz D) X.xe s₃) X.xe s₂) X.xe s':=by
 refine F.noted I hst hfr fun h' oe vs tb ot ts I1 hHa e1 e2 e3 e4 e5 e6 e7=>?_;refine wpAny_handleBy_cons ?_ (by intro z;cases z);have Ih:=Inv.held I1 (.ref a);refine codeAny_handlers_test (l7 (X:=X.held (.ref a)) Ih hg cT ?_ hdb);obtain⟨N1,nm1,q1,bs1,hd1,sn1,sub1,ab1,col1,dd1,a0,a1,a2,a3,a5,nw1,z1⟩:=oC;obtain⟨N2,nm2,q2,bs2,hd2,sn2,sub2,ab2,col2,dd2,c0,c1,c2,c3,c5,nw2,z2⟩:=oT;refine PU (I1.kIn _ _ z1) (I1.kIn _ _ z2) e1 e2 hbT ?_;rw[hit,if_pos rfl];refine codeAny_handlers_suite_as ?_;unfold SX;refine b_ (QQ e1 e3 e4 ?_);rw[if_pos (by rfl)];have h3s:3<ts.size:=(Rf.mp e7).1;refine Sv e5 e6 h3s ?_;have I2:Inv X pz σ (upd H' a (.ext (jB a C od))) { heap:=h'.update tb (QO fun v=>v.setIfInBounds 3 Value.none),gens:=s'.gens,drawn:=s'.drawn,toks:=s'.toks,os:=s'.os }:=by
  refine I1.kept fun b u e=>?_;show(h'.update tb _).get? b=some u;by_cases hb:b=tb
  .subst hb;have e5':h'.get? b=some ot:=e5;have:u=ot:=by rw[show h'.get? b=some u from e]at e5';cases e5';rfl
   subst this;have mf:QO (fun v=>v.setIfInBounds 3 Value.none) u=u:=by
    obtain⟨c,d,da,sl⟩:=u;have:da=.fields ts:=e6;subst this;show({ cls:=c,dict:=d,data:=.fields (ts.setIfInBounds 3 Value.none),slots:=sl }:Obj)=_;have:ts.setIfInBounds 3 Value.none=ts:=by
     refine V0 fun j=>?_;by_cases hj:3=j
     .subst hj;rw[QD h3s,e7]
     .rw[Array.getElem?_setIfInBounds_ne hj]
    rw[this]
   have nf:(QO (fun v=>v.setIfInBounds 3 Value.none) u).isFreed=false:=by obtain⟨c,d,da,sl⟩:=u;have:da=.fields ts:=e6;subst this;rfl
   have:=Q4 (QO fun v=>v.setIfInBounds 3 Value.none) e5' nf;rw[mf]at this;exact this
  .rw[Q5 _ _ _ _ hb];exact e
 refine sX (X:=X.held (.ref a)) (i:=i) (v:=.ref a) (Inv.held I2 (.ref a)) hN hi (.inl hsc) rfl (fun s3 I3=>?_) (.inr hsc);refine QP (hs pz s3 _ _ _ I3 (q hHa)) (fun f s4 h4=>?_) fun _ _ z=>QF z;have fin:∀{σ':L2.St}{H2:Hp} ,Inv (X.held (.ref a)) pz σ' H2 s4->D.nx (σ'.set i none) H2->f=Flow.next->q_ (D_ X.prog X.w) X.A (do
   bindName X.env n Value.none
   Ua X.env n hpos) (fun _ s₅=>SP X pz D f s₅) X.xe s4:=fun{σ' H2} I4 k hf=>by
  subst hf;have I4':Inv X pz σ' H2 s4:=Inv.unheld I.ok.hd I4;refine b_ (wpAny_bindName (sX (i:=i) (v:=.non) I4' hN hi (.inl hsc) rfl (fun s5 I5=>?_) (.inr hsc)));have hlen:i<σ'.length:=by rw[I4'.len];exact(c_.mp hi).1
  refine O7 (v:=.non) I5 hN hi (by rw[n_ hlen]) hl hsc fun s6 I6=>?_;rw[List.set_set]at I6;exact⟨_,H2,I6,k⟩
 cases f with
|next=>obtain⟨σ',H2,I4,k⟩:=h4;exact fin I4 k rfl
|brk=>obtain⟨σ',H2,I4,k⟩:=h4;exact k.elim
|cont=>obtain⟨σ',H2,I4,k⟩:=h4;exact k.elim
|ret u=>obtain⟨v,σ',H2,I4,_,k⟩:=h4;exact k.elim
end
theorem SI.cx{X X':Cx}{g:GE}{m:List Md}{r:aS}{G:GH}{st:L2.St}{H:Hp}(s:SI X g m r G st H)(h:X'.K=X.K):SI X' g m r G st H:=by
 constructor
 .rw[h];exact s.gok
 .exact s.old
 .exact s.ge
 .exact s.gf
 .exact s.lm
 .exact s.lr
 .rw[h];exact s.sh
 .rw[h];exact s.ow
 .rw[h];exact s.bw
 .exact s.dis
 .exact s.lk
theorem SI.unset{X:Cx}{g:GE}{m:List Md}{r:aS}{G:GH}{st:L2.St}{H:Hp}{i:Nat}(s:SI X g m r G st H)(hm:m[i]? = some .sh):SI X g m (r.set i none) G (st.set i none) H:=by
 have key:∀{j:Nat}{d:D},(r.set i none)[j]? = some (some d)->i≠j/\r[j]? = some (some d):=fun{j d} h=>by
  have hij:i≠j:=by
   rintro rfl
   rw[Wh,if_pos rfl]at h;split at h <;> cases h
  rw[f_ hij]at h;exact⟨hij,h⟩
 refine⟨s.gok,s.old,s.ge,s.gf,by rw[SN];exact s.lm,by rw[SN,SN];exact s.lr,fun j d h hj=>?_,fun j d h hj=>?_,fun j d h hj=>?_,fun j k a d e hjk h1 h2 m1 m2 q1 q2=>?_,fun j o h hj=>?_⟩
 .obtain⟨hij,h⟩:=key h;rw[f_ hij];exact s.sh j d h hj
 .obtain⟨hij,h⟩:=key h;rw[f_ hij];exact s.ow j d h hj
 .obtain⟨hij,h⟩:=key h;rw[f_ hij];exact s.bw j d h hj
 .obtain⟨z1,h1⟩:=key h1;obtain⟨z2,h2⟩:=key h2;rw[f_ z1]at q1;rw[f_ z2]at q2;exact s.dis j k a d e hjk h1 h2 m1 m2 q1 q2
 .have hij:i≠j:=by rintro rfl;rw[hm]at hj;cases hj
  obtain⟨l1,l2⟩:=s.lk j o h hj;exact⟨by rw[f_ hij];exact l1,fun d hd=>l2 d (by rw[f_ hij]at hd;exact hd)⟩
abbrev _root_.L2.Cx.tr(X:Cx)(ps:List (Addr×Obj))(E:a_->d_->Prop):Cx:={ X with pn:=ps,xe:=E }
section
variable{X:Cx}{pz pins':List (Addr×Obj)}{σ:L2.St}{H:Hp}{s:d_}{E:a_->d_->Prop}
theorem Inv.tr(I:Inv X pz σ H s)(E:a_->d_->Prop):Inv (X.tr (X.pn++pz) E) [] σ H s:=⟨⟨I.ok.mod,I.ok.kind,I.ok.glob,I.ok.blt,I.ok.above,I.ok.inj,I.ok.has,I.ok.cab,I.ok.hd,I.ok.frames,I.ok.stk,I.ok.exf,I.ok.bs,I.ok.bsz,I.ok.noex,I.ok.exfs,I.ok.funs,I.ok.frf⟩,I.os,I.bare,I.base,I.loc,I.cell,I.free,I.freeC,fun p hp=>I.pin p (by rw[QX]at hp;exact hp),I.hok,I.len⟩
theorem Inv.untr(I:Inv (X.tr (X.pn++pz) E) pins' σ H s):Inv X pz σ H s:=⟨⟨I.ok.mod,I.ok.kind,I.ok.glob,I.ok.blt,I.ok.above,I.ok.inj,I.ok.has,I.ok.cab,I.ok.hd,I.ok.frames,I.ok.stk,I.ok.exf,I.ok.bs,I.ok.bsz,I.ok.noex,I.ok.exfs,I.ok.funs,I.ok.frf⟩,I.os,I.bare,I.base,I.loc,I.cell,I.free,I.freeC,fun p hp=>I.pin p (Rt _ hp),I.hok,I.len⟩
theorem SP.untr{D:Ends}{f:Flow}(h:SP (X.tr (X.pn++pz) E) [] D f s):SP X pz D f s:=by cases f with
|next=>obtain⟨σ',H',I,q⟩:=h;exact⟨σ',H',Inv.untr I,q⟩
|brk=>obtain⟨σ',H',I,q⟩:=h;exact⟨σ',H',Inv.untr I,q⟩
|cont=>obtain⟨σ',H',I,q⟩:=h;exact⟨σ',H',Inv.untr I,q⟩
|ret u=>obtain⟨v,σ',H',I,r,q⟩:=h;exact⟨v,σ',H',Inv.untr I,r,q⟩
end
def lH(K:W.Frag)(T:Addr)(hit:Str->Bool):Prop:=∀nm C,hit nm=true->XN K nm C->∃bm,XO K C bm/\(Value.ref C::bm).contains (.ref T)=true
def Qm:D->Option Str
|.obj 0 ((_,.str nm)::_)=>some nm
|_=>none
def i5(m1:List Md)(i:Nat)(hit:Str->Bool)(fb fh:FS):FS:=fun r=>match fb r with
|.nx r'=>.nx (forget m1 r')
|.rt d=>.rt d
|.exc x r'=>(match Qm x with
 |some nm=>if hit nm=true then(match fh (r'.set i (some x))with
  |.nx r2=>.nx (r2.set i none)
  |_=>.stuck)else .stuck
 |none=>.stuck)
|_=>.stuck
section
variable{X:Cx}{g:GE}{ro:Bool}{m m1 mb:List Md}{T:Addr}{fb fh:FS}
theorem Cv{n xT:Str}{bmT:List a_}{np hpos pos:Pos}{body suite:List Stmt}{b₀:Stmt}{hit:Str->Bool}(i:Nat)(hst:X.stack=X.env::X.outer)(hfr:X.env.frame=some X.env.locals)(hcalm:X.calm=true)(cT:X.mg xT=some (.ref T))(oT:XO X.K T bmT)(hbT:bmT.contains (Value.type "BaseException")=true)(hk:lH X.K T hit)(hg:Gl X xT)(hN:X.N.Nodup)(hi:X.N[i]? = some n)(hl:X.env.kindOf n=some NameKind.local)(hsc:X.env.scope.names.lookup n=some .local)(hb:∀ps E,fP (X.tr ps E) g ro [] m body fb m1)(hs:∀a,fP (X.held (.ref a)) g ro [] (eh m1) (b₀::suite) fh (eh m1))(hdb:(xT==("__debug__" : Str))=false:=by decide):SS X g ro mb m (.Try body [.ExceptHandler (some (.Name xT np)) (some n) (b₀::suite) hpos] [] [] pos) (i5 m1 i hit fb fh) (eh m1):=by
 have hml:(eh m1).length=m.length:=by rw[eh,p_];exact(hb [] fun _ _=>False).1
 refine⟨hml,fun pz s σ H D I ⟨r,G,si,q⟩=>?_⟩;refine wpAny_Try_except ?_;generalize hE:(fun(e:a_)(s₁:d_)=>q_ (D_ X.prog X.w) X.A (TZ e X.env) (fun _ s₂=>q_ (D_ X.prog X.w) X.A (SX e none) (fun _ s₃=>q_ (D_ X.prog X.w) X.A (handleBy e X.env [.ExceptHandler (some (.Name xT np)) (some n) (b₀::suite) hpos]) (SP X pz D) X.xe s₃) X.xe s₂) X.xe s₁)=E';have key:dC (X.tr (X.pn++pz) E') g ro m1 [] G { nx:=D.nx,rt:=D.rt } (fb r):=by unfold i5 at q;cases e:fb r with
 |nx r'=>rw[e]at q;exact fun σ' G' H' le si'=>q σ' G' H' le (SI.cx (X':=X) si' rfl).forget
 |rt d=>rw[e]at q;exact q
 |bk r'=>rw[e]at q;exact q.elim
 |ct r'=>rw[e]at q;exact q.elim
 |stuck=>rw[e]at q;exact q
 |exc x r'=>
   rw[e]at q;intro pins' ev s' σ' G' H' le si' I' ex;obtain⟨pins1,s1,H1,a,C,od,nm,ds,rfl,rfl,xn,xf,I1,fl⟩:=ex;show E' (.ref a) s';rw[<-hE];replace q:dC X g ro (eh m1) mb G D (if hit nm=true then(match fh (r'.set i (some (xD nm ds)))with
   |.nx r2=>.nx (r2.set i none)
   |_=>.stuck)else .stuck):=q
   split at q
   .rename_i hh;obtain⟨bm,oC,hc⟩:=hk nm C hh xn;refine L3 (i:=i) (D:=D) fl (Inv.untr I1) hst hfr hcalm cT oT hbT oC hc hg hN hi hl hsc (hs a).2 (fun hHa=>?_) hdb;have hGa:G' a=none:=si'.gok.isN hHa;have w:Grow X.K G' H' (gset G' a (xD nm ds)) (upd H' a (.ext (jB a C od))):=by
     have ge:∀b d,G' b=some d->gset G' a (xD nm ds) b=some d:=fun b d e=>by
      have:b≠a:=by rintro rfl;rw[hGa]at e;cases e
      rw[gl this];exact e
     refine⟨fun b d e=>?_,fun b o e=>?_,ge,fun b h=>?_⟩
     .by_cases hb:b=a
      .subst hb;rw[fU]at e;cases e;exact .exc du xn (xf.mono ge)
      .rw[gl hb]at e;exact(si'.gok b d e).mono ge fun o z=>by rw[cM hb];exact z
     .have:b≠a:=by rintro rfl;rw[hHa]at e;cases e
      rw[cM this];exact e
     .have:b≠a:=by rintro rfl;exact h hHa
      exact gl this
    have si2:=((SI.cx (X':=X) si' rfl).grow w).set i (.ref fU);have hms:(eh m1)[i]? = some .sh:=by
     have hlen:i<(eh m1).length:=by rw[si'.lm,I'.len];exact(c_.mp hi).1
     have hlen':i<m1.length:=by rw[eh,p_]at hlen;exact hlen
     unfold eh;rw[F_,g_ hlen'];rfl
    have hset:(eh m1).set i .sh=eh m1:=by
     refine Wi fun j=>?_;by_cases hj:i=j
     .subst hj;rw[n_ (c_.mp hms).1,hms]
     .rw[f_ hj]
    rw[hset]at si2;refine⟨_,_,SI.cx si2 rfl,?_⟩;cases e2:fh (r'.set i (some (xD nm ds)))with
   |nx r2=>rw[e2]at q;exact fun σ2 G2 H2 le2 si3=>q (σ2.set i none) G2 H2 (le.trans (bY.trans w.ge le2)) (SI.unset (SI.cx si3 rfl) hms)
   |rt d=>rw[e2]at q;exact q.elim
   |bk _=>rw[e2]at q;exact q.elim
   |ct _=>rw[e2]at q;exact q.elim
   |exc _ _=>rw[e2]at q;exact q.elim
   |stuck=>rw[e2]at q;exact q.elim
   .exact q.elim
 refine QP ((hb (X.pn++pz) E').2 [] s σ H _ (Inv.tr I E') ⟨r,G,SI.cx si rfl,key⟩) (fun f s1 h1=>?_) fun e s1 h1=>?_
 .have h2:=SP.untr h1;cases f with
 |next=>obtain⟨σ',H',I',k⟩:=h2;exact SL ⟨σ',H',I',k⟩
 |brk=>obtain⟨σ',H',I',k⟩:=h2;exact k.elim
 |cont=>obtain⟨σ',H',I',k⟩:=h2;exact k.elim
 |ret u=>exact h2
 .exact h1
end
theorem KO:builtinKind "BaseException.__getattribute__" = some .slot:=by kernel_rfl
theorem MN:splitId "BaseException.__getattribute__" = some ("BaseException","__getattribute__"):=by decide+kernel
theorem Ng:plainId "BaseException.__getattribute__" = true:=by kernel_rfl
theorem LL:Wu (.builtin "BaseException.__getattribute__")=pure (.type "wrapper_descriptor"):=by kernel_rfl
section
variable{prog:A_}{w:M_}{A:K_}{E:a_->d_->Prop}{s:d_}{nm q:Str}{C N a:Addr}{bs bm:List a_}{hdct:Bool}{sn:List Str}{sub:List a_}{ab:Bool}{col:Option Bool}{dd:Option Addr}{k0 k1 k2 k3 k5:Option a_}{newId:String}{oe:Obj}
theorem ED{T:String}{Q:Bool->d_->Prop}(hC:s.heap.get? C=some (Q2 nm q C N bs bm hdct sn sub ab col dd k0 k1 k2 k3 k5 newId))(he:s.heap.get? a=some oe)(hc:oe.cls=.ref C)(hq:Q ((Value.ref C::bm).contains (.type T)) s):q_ (D_ prog w) A (UE (.ref a) (.type T)) Q E s:=by unfold UE;refine b_ (Rj he ?_);rw[hc];obtain⟨hh,hg,hdr,ht,ho⟩:=s;exact RZ hC hq
theorem L4{v:a_}{Q:Unit->d_->Prop}(hC:s.heap.get? C=some (Q2 nm q C N bs bm hdct sn sub ab col dd k0 k1 k2 k3 k5 newId))(he:s.heap.get? a=some oe)(hc:oe.cls=.ref C)(hb:bm.contains (Value.type "BaseException")=true)(hq:Q () s):q_ (D_ prog w) A (U1 "BaseException.__getattribute__" ⟨[.ref a,v],[]⟩) Q E s:=by unfold U1;simp only[KO,MN];refine b_ (ED hC he hc ?_);rw[R8,hb,TM,if_neg (by simp)];have:=F.args_bexc_ga (.ref a) v;unfold argsOk at this;revert this;generalize Manifest.signature? "BaseException.__getattribute__" = sg;intro this;cases sg with
|none=>exact j_ hq
|some sig=>have e:UF "BaseException.__getattribute__" sig ⟨[.ref a,v],[]⟩=pure ():=this;show q_ _ _ (UF "BaseException.__getattribute__" sig ⟨[.ref a,v],[]⟩) _ _ _;rw[e];exact j_ hq
theorem JP{v:a_}{Q:a_->d_->Prop}(hC:s.heap.get? C=some (Q2 nm q C N bs bm hdct sn sub ab col dd k0 k1 k2 k3 k5 newId))(he:s.heap.get? a=some oe)(hc:oe.cls=.ref C)(hb:bm.contains (Value.type "BaseException")=true)(h:q_ (D_ prog w) A.in1 (RE.«object.__getattribute__» ⟨[.ref a,v],[]⟩) (fun fin s'=>∃u,fin=.done (.ret u)/\Q u s') E s):q_ (D_ prog w) A (call (.builtin "BaseException.__getattribute__") [.ref a,v]) Q E s:=by refine Ta (Tc Ng F.entry_bexc_ga (L4 hC he hc hb ?_));refine QP h (fun fin s' ⟨u,e,hq⟩=>?_) fun e s' z=>z;subst e;exact hq
theorem Dm{K:W.Frag}{v:a_}{fill expr:Bool}{Q:a_->d_->Prop}(kin:K.In s.heap)(hC:s.heap.get? C=some (Q2 nm q C N bs bm hdct sn sub ab col dd k0 k1 k2 k3 k5 newId))(he:s.heap.get? a=some oe)(hc:oe.cls=.ref C)(hb:bm.contains (Value.type "BaseException")=true)(g1:Tu K (.ref C) "__getattribute__" = some (some (.builtin "BaseException.__getattribute__")))(g2:Tu K (.ref C) "__getattr__" = some none)(h:q_ (D_ prog w) A.in1 (RE.«object.__getattribute__» ⟨[.ref a,v],[]⟩) (fun fin s'=>∃u,fin=.done (.ret u)/\VG u=pure u/\Q u s') (fun _ _=>False) s):q_ (D_ prog w) A (getAttrBy (.ref a) v fill expr) Q E s:=by
 unfold getAttrBy;refine Ro (b_ (Rj he ?_));rw[hc];refine b_ (TU kin g1 _ _ _ _ (fun b o e=>e) ?_);show q_ _ _ (if (onTheHeap (Value.ref C)&&(Value.builtin "BaseException.__getattribute__" == Value.builtin "object.__getattribute__"))=true then _ else _) _ _ _;rw[if_neg (by intro z;rw[show(Value.builtin "BaseException.__getattribute__" == Value.builtin "object.__getattribute__")=false from by decide+kernel,Bool.and_false]at z;cases z)];unfold getAttrByItsOwn hookBefore;rw[if_pos (by rfl)];refine b_ (TU kin g2 _ _ _ _ (fun b o e=>e) ?_);refine b_ (UU (Ro ?_));unfold callGetattribute;have hx:(expr&&onTheHeap (Value.builtin "BaseException.__getattribute__"))=false:=by cases expr <;> rfl
 rw[hx,if_neg i_];unfold boundAndCalled bindSpecial;rw[LL];refine b_ (b_ (j_ ?_));rw[if_pos (by decide)];refine j_ ?_;refine JP hC he hc hb (QP h (fun fin s' ⟨u,e,ho,hq⟩=>⟨u,e,?_⟩) fun _ _ z=>QF z);show q_ _ _ (VG u) _ _ _;rw[ho];exact j_ hq
end
theorem KP:builtinKind "getset_descriptor.__get__" = some .slot:=by kernel_rfl
theorem MO:splitId "getset_descriptor.__get__" = some ("getset_descriptor","__get__"):=by decide+kernel
theorem Nh:plainId "getset_descriptor.__get__" = true:=by kernel_rfl
theorem L8:entryFor table "getset_descriptor.__get__" = some RE.«getset_descriptor.__get__»:=by kernel_rfl
theorem L9:entryFor table "object.__class__" = some RE.«object.__class__»:=by kernel_rfl
theorem LM:Wu (.builtin "object.__class__")=pure (.type "getset_descriptor"):=by kernel_rfl
theorem JK(a b c:a_):argsOk "getset_descriptor.__get__" ⟨[a,b,c],[]⟩:=by kernel_rfl
theorem Ni:plainId "object.__class__" = true:=by kernel_rfl
theorem Jz:U6 (.builtin "object.__class__")=pure (l_ "__class__",Value.type "object"):=by kernel_rfl
theorem J4:isSubtype (.type "getset_descriptor") (.type "getset_descriptor")=pure true:=by rw[isSubtype_type];kernel_rfl
section
variable{prog:A_}{w:M_}{A:K_}{E:a_->d_->Prop}{s:d_}{nm q:Str}{C N a:Addr}{bs bm:List a_}{hdct:Bool}{sn:List Str}{sub:List a_}{ab:Bool}{col:Option Bool}{dd:Option Addr}{k0 k1 k2 k3 k5:Option a_}{newId:String}{oe:Obj}
theorem Mg{Q:a_->d_->Prop}(hC:s.heap.get? C=some (Q2 nm q C N bs bm hdct sn sub ab col dd k0 k1 k2 k3 k5 newId))(he:s.heap.get? a=some oe)(hc:oe.cls=.ref C)(hb:bm.contains (Value.type "object")=true)(hq:Q (.ref C) s):q_ (D_ prog w) A (call (.builtin "getset_descriptor.__get__") [.builtin "object.__class__",.ref a,.ref C]) Q E s:=by
 refine Ta (Tc Nh L8 ?_);unfold U1;simp only[KP,MO];unfold UE;rw[LM];refine b_ (b_ (j_ ?_));rw[J4];refine j_ ?_;rw[if_neg (by decide)];have this:=JK (.builtin "object.__class__") (.ref a) (.ref C);unfold argsOk at this;revert this;generalize Manifest.signature? "getset_descriptor.__get__" = sg;intro this;have body:q_ (D_ prog w) A.in1 (RE.«getset_descriptor.__get__» ⟨[.builtin "object.__class__",.ref a,.ref C],[]⟩) (fun fin s'=>match fin with
  |Fin.done f=>(match (Except.ok f:Yb)with|.ok (.ret v)=>Q v s'|.ok _=>False|.error e=>E e s')
  |Fin.again c'=>c'.quiet=true/\UK (D_ prog w) A c' (fun r s'=>match r with|.ok (.ret v)=>Q v s'|.ok _=>False|.error e=>E e s') s') (fun e s'=>E e s') s:=by
  unfold RE.«getset_descriptor.__get__» V2 Vz;refine b_ ?_;show q_ _ _ (pure ((Value.builtin "object.__class__",some (Value.ref a),some (Value.ref C)):a_×Option a_×Option a_)) _ _ _;refine j_ ?_;unfold VH U2
  dsimp only
  rw[Jz];refine b_ (b_ (j_ (b_ (ED hC he hc ?_))));rw[R8,hb,TM,if_neg (by simp)];refine j_ (j_ ⟨plainId_quiet Ni _,?_⟩);refine codeAny_builtin L9 ?_;unfold RE.«object.__class__» shownTypeOf;refine b_ (b_ (Rj he ?_));rw[hc,if_neg (by intro z;cases z)];exact j_ (j_ hq)
 cases sg with
|none=>exact j_ body
|some sig=>have e:UF "getset_descriptor.__get__" sig ⟨[.builtin "object.__class__",.ref a,.ref C],[]⟩=pure ():=this;show q_ _ _ (UF "getset_descriptor.__get__" sig ⟨[.builtin "object.__class__",.ref a,.ref C],[]⟩) _ _ _;rw[e];exact j_ body
theorem Mf{K:W.Frag}{tk:Tok}{Q:a_->d_->Prop}(kin:K.In s.heap)(hC:s.heap.get? C=some (Q2 nm q C N bs bm hdct sn sub ab col dd k0 k1 k2 k3 k5 newId))(he:s.heap.get? a=some oe)(hc:oe.cls=.ref C)(hb:bm.contains (Value.type "object")=true)(g1:Tu K (.ref C) "__class__" = some (some (.builtin "object.__class__")))(g2:WE K (.builtin "object.__class__") "__get__" = some (some (.builtin "getset_descriptor.__get__")))(g3:takesIn K (.builtin "object.__class__")=some true)(hq:Q (.ref C) s):q_ (D_ prog w) A (RE.«object.__getattribute__» ⟨[.ref a,.str "__class__" tk],[]⟩) (fun fin s'=>∃u,fin=.done (.ret u)/\VG u=pure u/\Q u s') E s:=by unfold RE.«object.__getattribute__»;refine b_ ?_;show q_ _ _ (pure ((Value.ref a,[Value.str "__class__" tk]):a_×List a_)) _ _ _;refine j_ ?_;show q_ _ _ (Ut (Value.str "__class__" tk) >>= _) _ _ _;refine b_ ?_;show q_ _ _ (pure (l_ "__class__")) _ _ _;refine j_ (b_ (Rj he ?_));rw[hc];refine b_ ?_;unfold U3;refine b_ (TU kin g1 _ _ _ _ (fun b o e=>e) ?_);refine b_ ?_;show q_ _ _ (specialOf (Value.builtin "object.__class__") (l_ "__get__")) _ _ _;refine looks_specialIn kin g2 _ _ _ _ (fun b o e=>e) ?_;refine b_ ?_;show q_ _ _ (WF (Value.builtin "object.__class__") >>= _) _ _ _;refine b_ (looks_takesIn kin g3 _ _ _ _ (fun b o e=>e) ?_);rw[if_pos rfl];refine j_ (b_ (Vh (j_ ?_)));unfold XD;show q_ _ _ (Uo [Value.builtin "object.__class__"] (call (Value.builtin "getset_descriptor.__get__") [Value.builtin "object.__class__",Value.ref a,Value.ref C]) >>= fun v=>ret v) _ _ _;refine b_ (Ro (Mg hC he hc hb ?_));exact j_ ⟨_,rfl,rfl,hq⟩
end
structure XA(K:W.Frag)(C:Addr)(bm:List a_):Prop where
 ob:XO K C bm
 be:bm.contains (Value.type "BaseException")=true
 bo:bm.contains (Value.type "object")=true
 ga:Tu K (.ref C) "__getattribute__" = some (some (.builtin "BaseException.__getattribute__"))
 gn:Tu K (.ref C) "__getattr__" = some none
 gc:Tu K (.ref C) "__class__" = some (some (.builtin "object.__class__"))
 gg:WE K (.builtin "object.__class__") "__get__" = some (some (.builtin "getset_descriptor.__get__"))
 gt:takesIn K (.builtin "object.__class__")=some true
theorem Nm{K:W.Frag}{a C:Addr}{od:Option Addr}{bm:List a_}(x:XA K C bm):KitX K (.ref a) (.ref C) (jB a C od):=by
 obtain⟨N1,nm1,q1,bs1,hd1,sn1,sub1,ab1,col1,dd1,a0,a1,a2,a3,a5,nw1,z1⟩:=x.ob;refine⟨fun M h kin hx A Q E s hk hq=>?_,fun M h kin hx A Q E s hk hq=>?_,fun h tp dd its n sl kin ht=>?_,fun{prog w A E Q s} kin hx hq=>?_⟩
 .obtain⟨oe,vs,e1,e2,_⟩:=hx;exact Rj (hk _ _ e1) (by rw[e2];exact hq)
 .obtain⟨hh,hg,hdr,ht,ho⟩:=s;exact ks_wpAny_isType_cls (hk _ _ (kin _ _ z1)) rfl hq
 .cases hb:(Value.ref C==Value.ref tp)with
 |false=>rfl
 |true=>have e:Value.ref C=Value.ref tp:=RK hb;cases e;have:=kin _ _ z1;rw[ht]at this;have h2:=congrArg Obj.data (z_ this);cases h2
 .obtain⟨oe,vs,e1,e2,_⟩:=hx;unfold getAttr?;refine b_ (Wj ?_);unfold getAttrBy?;refine b_ (UU (Dm kin (kin _ _ z1) e1 e2 x.be x.ga x.gn ?_));exact Mf (s:={ heap:=s.heap,gens:=s.gens,drawn:=s.drawn,toks:=s.toks+1,os:=s.os }) kin (kin _ _ z1) e1 e2 x.bo x.gc x.gg x.gt (j_ hq)
def cS(tab:Str->Option Bool):D->Option D
|.non=>some (.bl false)
|.obj 0 ((_,.str nm)::_)=>(tab nm).map .bl
|_=>none
structure IsxOk(K:W.Frag)(c:a_)(tab:Str->Option Bool):Prop where
 no:V3 K (.type "NoneType") c=some false
 ex:∀nm b C,tab nm=some b->XN K nm C->∃bm,XA K C bm/\V3 K (.ref C) c=some b
section
variable{X:Cx}{g:GE}{m:List Md}{e:Expr}{f:FE}{pos p p2:Pos}
theorem Ms{c:a_}{cv:V}(hcv:∀u,aY cv u->u=c):gF X (.builtin "isinstance") (fun xs H Q=>∃x b,xs=[x,cv]/\((x=.non/\V3 X.K (.type "NoneType") c=some b)\/∃a C od bm,x=.ref a/\H a=some (.ext (jB a C od))/\XA X.K C bm/\V3 X.K (.ref C) c=some b)/\Q (.bl b) H):=by
 intro pz s σ H xs us Q I r h;obtain⟨x,b,rfl,h,q⟩:=h;obtain⟨u,w',rfl,rx,ry⟩:=sk r;have:=hcv _ ry;subst this;have fin:∀tk,EP X pz σ Q (.bool b) { s with toks:=tk }:=fun tk=>⟨.bl b,H,I.tok tk,rfl,q⟩
 rcases h with⟨rfl,e⟩|⟨a,C,od,bm,rfl,ea,xa,e⟩
 .cases rx;exact W.kia_one W.kitx_none I.kIn True.intro e (fun z=>nomatch z) fin
 .cases(show u=Value.ref a from rx);exact W.kia_one (Nm xa) I.kIn (I.hok a _ ea).1 e (fun z=>nomatch z) fin
theorem RB.exc{K:W.Frag}{G:GH}{H:Hp}{v:V}{k:Str}{nm:Str}{ds:List (Str×D)}(gk:bZ K G H)(h:RB K G H v (.obj 0 ((k,.str nm)::ds))):∃a C od,v=.ref a/\H a=some (.ext (jB a C od))/\XN K nm C:=by
 rcases h with h|⟨a,rfl,h⟩
 .cases h with
 |scl s=>cases s
 |ref e=>cases gk _ _ e with
  |exc r n f=>exact⟨_,_,_,rfl,r,n⟩
 |kc k=>cases k
 .cases h.ob
theorem C6{c:a_}{cv:V}{tab:Str->Option Bool}{a2:Expr}(hcv:∀u,aY cv u->u=c)(hx:IsxOk X.K c tab)(h2:PE X a2 (tC cv))(hg:Gl X "isinstance")(hm:X.mg "isinstance" = none)(he:SB X g m e f)(hs1:h_ [e,a2] X.env=(false,eval e X.env)::h_ [a2] X.env:=by rfl)(hs2:h_ [a2] X.env=(false,eval a2 X.env)::h_ [] X.env:=by rfl)(hpl:(backTo pos (h_ [a2] X.env)).any (·.1)=false:=by rfl):SE X g m (.Call (.Name "isinstance" p) [e,a2] [] pos) (f1 f (cS tab)):=by
 refine PE.imp (m9 (Ms hcv) hg hm (by first|exact Uh|rfl) (iD he (iD h2 kh hs2) hs1) (by decide) (by decide) hs1 hpl) fun σ H Q ⟨r,G,si,q⟩=>⟨r,G,si,cY (c6 q) fun d q1 v G1 H1 w1 r1=>?_⟩
 obtain⟨d',e',q2⟩:=dZ q1;unfold cS at e';split at e'
 .cases e';have hv:v=.non:=r1.non w1.ok;subst hv;exact⟨.non,false,rfl,.inl ⟨rfl,hx.no⟩,q2 _ G1 H1 w1 (.scl (.bl _))⟩
 .rename_i k nm ds;cases ht:tab nm with
 |none=>rw[ht]at e';cases e'
 |some b=>rw[ht]at e';cases e';obtain⟨a,C,od,rfl,ha,xn⟩:=RB.exc w1.ok r1;obtain⟨bm,xa,hk⟩:=hx.ex nm b C ht xn;exact⟨.ref a,b,rfl,.inr ⟨a,C,od,bm,rfl,ha,xa,hk⟩,q2 _ G1 H1 w1 (.scl (.bl _))⟩
 .cases e'
theorem jr{x:Str}{T:Addr}{tab:Str->Option Bool}(hmT:X.mg x=some (.ref T))(hx:IsxOk X.K (.ref T) tab)(hgT:Gl X x)(hg:Gl X "isinstance")(hm:X.mg "isinstance" = none)(he:SB X g m e f)(hd:(x==("__debug__" : Str))=false:=by decide)(hs1:h_ [e,.Name x p2] X.env=(false,eval e X.env)::h_ [.Name x p2] X.env:=by rfl)(hs2:h_ [.Name x p2] X.env=(false,eval (.Name x p2) X.env)::h_ [] X.env:=by rfl)(hpl:(backTo pos (h_ [.Name x p2] X.env)).any (·.1)=false:=by rfl):SE X g m (.Call (.Name "isinstance" p) [e,.Name x p2] [] pos) (f1 f (cS tab)):=C6 (cv:=.ref T) (fun u h=>h) hx (Ks (v:=.ref T) hgT hmT rfl hd) hg hm he hs1 hs2 hpl
theorem Kk{x:Str}{T:String}{tab:Str->Option Bool}(hv:SJ x=some (.type T))(hmT:X.mg x=none)(hx:IsxOk X.K (.type T) tab)(hgT:Gl X x)(hg:Gl X "isinstance")(hm:X.mg "isinstance" = none)(he:SB X g m e f)(hn:x≠"__name__" := by decide)(hd:(x==("__debug__" : Str))=false:=by decide)(hs1:h_ [e,.Name x p2] X.env=(false,eval e X.env)::h_ [.Name x p2] X.env:=by rfl)(hs2:h_ [.Name x p2] X.env=(false,eval (.Name x p2) X.env)::h_ [] X.env:=by rfl)(hpl:(backTo pos (h_ [.Name x p2] X.env)).any (·.1)=false:=by rfl):SE X g m (.Call (.Name "isinstance" p) [e,.Name x p2] [] pos) (f1 f (cS tab)):=C6 (cv:=.ty T) (fun u h=>h) hx (DV (v:=.ty T) hgT hmT hv rfl hn hd) hg hm he hs1 hs2 hpl
end
section
variable{X:Cx}{g:GE}{m:List Md}{e:Expr}{es:List Expr}{fl:aS->Res (List D)}{k:Nat}{ps:List Str}{F:List D->Res D}{x:Str}{p pos:Pos}{ms:List Md}
theorem kj(c:CalleeX X.prog X.w X.K X.mg X.base x ps [] k false ms F)(hr:Room k X.A)(ha:jX X g m (e::es) ms fl)(hg:Gl X x:=by rfl)(hdb:(x==("__debug__" : Str))=false:=by decide)(he:h_ (e::es) X.env=(false,eval e X.env)::h_ es X.env:=by rfl)(hpl:(backTo pos (h_ es X.env)).any (·.1)=false:=by rfl):SE X g m (.Call (.Name x p) (e::es) [] pos) (gZ fl [] F):=Lu (ms:=ms) (dds:=[]) (dvs:=[]) (ds:=[]) (by rw[show(y_ ([]:List D).length Md.sh)=[]from rfl,QX];exact c) hr .nil .nil ha hg hdb he hpl
end
theorem XN.uniq{K:W.Frag}{nm:Str}{C c:Addr}(h:XN K nm C)(k:(K.all fun e=>match e.2.data with|.cls cd=>cd.name != nm || e.1==c|_=>true)=true):C=c:=by
 obtain⟨o,cd,h1,h2,h3⟩:=h;have hm:(C,o)∈(K:List (Addr×Obj)):=by
  have key:∀l:List (Addr×Obj),l.lookup C=some o->(C,o)∈l:=by
   intro l
   induction l with
  |nil=>intro h;cases h
  |cons q l ih=>
    intro h;rw[VA]at h;split at h
    .rename_i hb;have:=RK hb;cases h;rw[this];exact k_
    .exact m_ _ (ih h)
  exact key K h1
 have:=RL.mp k _ hm;simp only[h2]at this;rw[h3]at this;simpa using this
def dO(K:W.Frag)(C:Addr):Option (List a_×Str):=match K.lookup C with
|some ⟨.type "type",_,.cls cd,sl⟩=>(match cd.mro,sl.toList with
 |.ref C'::bm,[_,_,_,_,some (.builtin _),_]=>if (C'==C && ! cd.hasDel)=true then some (bm,cd.name)else none
 |_,_=>none)
|_=>none
theorem wM{K:W.Frag}{C:Addr}{bm:List a_}{nm:Str}(h:dO K C=some (bm,nm)):XO K C bm/\XN K nm C:=by
 unfold dO at h;split at h
 .rename_i dict cd sl hk;split at h
  .rename_i C' bm' k0 k1 k2 k3 n k5 hm hs;split at h
   .rename_i hc;cases h;simp only[J_,beq_iff_eq,S2]at hc;obtain⟨rfl,hd⟩:=hc;refine⟨?_,_,cd,hk,rfl,rfl⟩;obtain⟨nm',bs,mro,ns,q,hdct,sn,sub,ab,col,hdel⟩:=cd;have e1:mro=Value.ref C'::bm:=hm;have e2:hdel=false:=hd;subst e1 e2;have e3:sl = #[k0,k1,k2,k3,some (Value.builtin n),k5]:=by cases sl with
    |mk l=>exact congrArg Array.mk hs
    subst e3;exact⟨_,_,_,_,_,_,_,_,_,_,_,_,_,_,_,_,hk⟩
   .cases h
  .cases h
 .cases h
def eN(K:W.Frag)(nm:Str)(c:Addr):Bool:=K.all fun e=>match e.2.data with
|.cls cd=>cd.name != nm || e.1==c
|_=>true
structure CF(K:W.Frag)(nm:Str)(c:Addr)(bm:List a_):Prop where
 xa:XA K c bm
 xn:XN K nm c
 un:eN K nm c=true
theorem jp{K:W.Frag}{nm:Str}{c:Addr}{bm:List a_}(o:dO K c=some (bm,nm))(be:bm.contains (Value.type "BaseException")=true)(bo:bm.contains (Value.type "object")=true)(ga:Tu K (.ref c) "__getattribute__" = some (some (.builtin "BaseException.__getattribute__")))(gn:Tu K (.ref c) "__getattr__" = some none)(gc:Tu K (.ref c) "__class__" = some (some (.builtin "object.__class__")))(gg:WE K (.builtin "object.__class__") "__get__" = some (some (.builtin "getset_descriptor.__get__")))(gt:takesIn K (.builtin "object.__class__")=some true)(un:eN K nm c=true):CF K nm c bm:=⟨⟨(wM o).1,be,bo,ga,gn,gc,gg,gt⟩,(wM o).2,un⟩
theorem CF.eq{K:W.Frag}{nm:Str}{c C:Addr}{bm:List a_}(f:CF K nm c bm)(h:XN K nm C):C=c:=XN.uniq h f.un
theorem BH{K:W.Frag}{T:Addr}{hit:Str->Bool}(l:List (Str×Addr×List a_))(h:∀q∈l,CF K q.1 q.2.1 q.2.2/\(Value.ref q.2.1::q.2.2).contains (.ref T)=true)(hh:∀nm,hit nm=true->∃q∈l,q.1=nm):lH K T hit:=by intro nm C hn xn;obtain⟨q,hq,rfl⟩:=hh nm hn;obtain⟨f,hc⟩:=h q hq;have:=f.eq xn;subst this;exact⟨_,f.xa.ob,hc⟩
theorem HN{K:W.Frag}{c:a_}{tab:Str->Option Bool}(l:List (Str×Addr×List a_))(n:V3 K (.type "NoneType") c=some false)(h:∀q∈l,CF K q.1 q.2.1 q.2.2/\V3 K (.ref q.2.1) c=tab q.1)(hh:∀nm b,tab nm=some b->∃q∈l,q.1=nm):IsxOk K c tab:=by refine⟨n,fun nm b C ht xn=>?_⟩;obtain⟨q,hq,rfl⟩:=hh nm b ht;obtain⟨f,hc⟩:=h q hq;have:=f.eq xn;subst this;exact⟨_,f.xa,by rw[hc,ht]⟩
theorem Hh{K:W.Frag}{h:Heap}{mg:Str->Option a_}{x:Str}{C:Addr}(KX:K.In h)(G:h.Ns N_ mg)(a:W.nsIn K N_ x=some (some (.ref C)))(e:excIn K C gp "ValueError.__new__" = true):XC K mg x C:=⟨W.mg_of KX G a,e⟩
end DL
namespace DL
open PySem PySem.Spec PyProof.Rows L2 PySem.W
def jo{α:Type}(P:α->Prop):List α->Prop
|[]=>True
|a::l=>P a/\jo P l
theorem jo.mem{α:Type}{P:α->Prop}:∀{l:List α},jo P l->∀q∈l,P q
|[],_,_,hq=>by cases hq
|a::l,h,q,hq=>by
  rcases w_.mp hq with rfl|hq
  .exact h.1
  .exact jo.mem h.2 q hq
abbrev QL:=List (Str×Addr×List a_)
theorem Bv{l1 l2 N:List Str}{nm:Str}{b:Bool}{L:QL}(hN:L.map (·.1)=N)(hs:(l1++l2).all (fun x=>N.contains x)=true)(h:(if l1.contains nm=true then some true else if l2.contains nm=true then some false else none)=some b):∃q∈L,q.1=nm:=by
 have hm:nm∈l1++l2:=by
  split at h
  .rename_i z;exact Rt _ (RI.mp z)
  .split at h
   .rename_i z;exact H_ _ (RI.mp z)
   .cases h
 have:=RI.mp (RL.mp hs nm hm);rw[<-hN]at this;obtain⟨q,h1,h2⟩:=B_.mp this;exact⟨q,h1,h2⟩
theorem i3{K:W.Frag}{c:a_}{l1 l2 N:List Str}{L:QL}(hN:L.map (·.1)=N)(f:jo (fun q=>CF K q.1 q.2.1 q.2.2) L)(n:V3 K (.type "NoneType") c=some false)(h:L.all (fun q=>V3 K (.ref q.2.1) c==if l1.contains q.1=true then some true else if l2.contains q.1=true then some false else none)=true)(hs:(l1++l2).all (fun x=>N.contains x)=true:=by decide+kernel):IsxOk K c fun nm=>if l1.contains nm=true then some true else if l2.contains nm=true then some false else none:=HN L n (fun q hq=>⟨f.mem q hq,RK (RL.mp h q hq)⟩) fun _ _ z=>Bv hN hs z
end DL
namespace DL
open PySem PySem.Spec PyProof.Rows L2 PySem.W PySem.Calls
section
variable{prog:A_}{w:M_}{A:K_}{E:a_->d_->Prop}{s:d_}{nm q:Str}{C N a:Addr}{bs bm:List a_}{sn:List Str}{sub:List a_}{ab:Bool}{col:Option Bool}{dd:Option Addr}{k0 k1 k2 k3 k5:Option a_}{newId:String}{oe:Obj}
theorem HD{K:W.Frag}{name:Str}{tk:Tok}{dx:Addr}{mA:Str->Option a_}{v:a_}{vs:Array a_}{Q:a_->d_->Prop}(kin:K.In s.heap)(hC:s.heap.get? C=some (Q2 nm q C N bs bm true sn sub ab col dd k0 k1 k2 k3 k5 newId))(he:s.heap.get? a=some oe)(hc:oe.cls=.ref C)(hda:oe.data=.fields vs)(hdi:oe.dict=some dx)(hn:s.heap.Ns dx mA)(g1:Tu K (.ref C) name=some none)(hv:mA name=some v)(ho:VG v=pure v)(hq:Q v s):q_ (D_ prog w) A (RE.«object.__getattribute__» ⟨[.ref a,.str name tk],[]⟩) (fun fin s'=>∃u,fin=.done (.ret u)/\VG u=pure u/\Q u s') E s:=by
 obtain⟨oc,odi,oda,osl⟩:=oe
 dsimp only at hc hda hdi
 subst hc hda hdi;unfold RE.«object.__getattribute__»;refine b_ ?_;show q_ _ _ (pure ((Value.ref a,[Value.str name tk]):a_×List a_)) _ _ _;refine j_ ?_;show q_ _ _ (Ut (Value.str name tk) >>= _) _ _ _;refine b_ ?_;show q_ _ _ (pure name) _ _ _;refine j_ (b_ (Rj he ?_));refine b_ ?_;unfold U3;refine b_ (TU kin g1 _ _ _ _ (fun b o e=>e) ?_);refine b_ ?_;show q_ _ _ (pure none) _ _ _;refine j_ (b_ ?_);show q_ _ _ (pure none) _ _ _;refine j_ ?_;unfold Wm WZ Xm;refine b_ (b_ (b_ (TR he ?_)));unfold instanceDict;refine b_ (TR he ?_);refine b_ ?_;unfold classData;refine b_ (W9 hC (j_ ?_))
 dsimp only
 refine j_ ?_;refine wpAny_nsGet hn ?_;rw[hv];exact b_ (Vh (j_ (j_ ⟨v,rfl,ho,hq⟩)))
end
abbrev e8(C t:Addr)(od:Option Addr):Obj:={ cls:=.ref C,dict:=od,data:=.fields #[.ref t,.none,.none,.none,.bool false,.none] }
section
variable{prog:A_}{w:M_}{A:K_}{E:a_->d_->Prop}{h:Heap}{gs:Array W7}{dr:Drawn}{tk:Nat}{os:OsState}
variable{nm ql:Str}{C N fI:Addr}{bs bm bB:List a_}{hdct:Bool}{sn:List Str}{sub:List a_}{ab:Bool}{col:Option Bool}{dd:Option Addr}{k0 k1 k2 k3 k5:Option a_}{B nw ini:String}{mN:Str->Option a_}{us:List a_}{oI:Obj}
theorem LB{Q:Fin->d_->Prop}(XF:ExcBaseFacts B nw ini bB)(T:Ve h bB bm)(hC:h.get? C=some (Q2 nm ql C N bs bm hdct sn sub ab col dd k0 k1 k2 k3 k5 nw))(hn:h.Ns N mN)(hi:mN "__init__" = some (.ref fI))(hf:h.get? fI=some oI)(hfc:oI.cls=.type "function")(hz:us.length<=sizeLine)(hq:∀h' e,Xn h h' e (.ref C) us->q_ (D_ prog w) A (call (.ref fI) (.ref e::us)) (fun r s'=>r=.none/\Q (.done (.ret (.ref e))) s') E ⟨h',gs,dr,tk,os⟩):q_ (D_ prog w) A (RE.«type.__call__» ⟨.ref C::us,[]⟩) Q E ⟨h,gs,dr,tk,os⟩:=by
 repeat (first
  |with_reducible refine S9 hC ?_
  |with_reducible refine wpAny_madeBy_exc hC ?_
  |wp_step)
 refine codeAny_call_builtin_code (V4 _ XF.quiet) (wpAny_check_new_subT XF T hC (codeAny_exc_new_subT XF T hC ?_ hz));show q_ _ _ _ _ _ _;have hk:∀b o,h.get? b=some o->((h.push { cls:=.type "tuple",data:=.seq us.toArray }).push (e8 C h.objs.size none)).get? b=some o:=fun b o e=>e_ _ (e_ _ e);have hg:((h.push { cls:=.type "tuple",data:=.seq us.toArray }).push (e8 C h.objs.size none)).get? (h.objs.size+1)=some (e8 C h.objs.size none):=by heap_get
 have hg2:((h.push { cls:=.type "tuple",data:=.seq us.toArray }).push (e8 C h.objs.size none)).get? h.objs.size=some { cls:=.type "tuple",data:=.seq us.toArray }:=e_ _ (Wk rfl rfl);have hC1:=hk _ _ hC;have hf1:=hk _ _ hf;have hn1:=hn.keeps hk;have T1:=T.keeps hk;have hcC:(Value.ref C::bm).contains (.ref C)=true:=by simp
 unfold UE
 repeat (first
  |with_reducible refine S9 hg ?_
  |(with_reducible refine RZ hC1 ?_;rw[hcC])
  |wp_step)
 show q_ _ _ (typeLookup (.ref C) _) _ _ _;refine wpAny_typeLookup_tail hC1 hn1 T1 XF.mroIs XF.init.lookup ?_;rw[hi];refine Ro (b_ ?_);unfold bindSpecial;refine b_ (wpAny_typeOf (T := "function") ⟨_,hf1,hfc⟩ ?_);rw[if_pos (by decide)];refine j_ (b_ (QP (hq _ (h.objs.size+1) ⟨hk,Sg (Vt _),h.objs.size,hg,Sg (r_ _),hg2⟩) (fun r s' hr=>?_) fun _ _ z=>z));obtain⟨rfl,hQ⟩:=hr
 wp_walk
 exact hQ
theorem NG{Q:a_->d_->Prop}(XF:ExcBaseFacts B nw ini bB)(T:Ve h bB bm)(hC:h.get? C=some (Q2 nm ql C N bs bm hdct sn sub ab col dd k0 k1 k2 k3 k5 nw))(hn:h.Ns N mN)(hi:mN "__init__" = some (.ref fI))(hf:h.get? fI=some oI)(hfc:oI.cls=.type "function")(hz:us.length<=sizeLine)(hq:∀h' e,Xn h h' e (.ref C) us->q_ (D_ prog w) (A.under (.builtin "type.__call__" ⟨.ref C::us,[]⟩)) (call (.ref fI) (.ref e::us)) (fun r s'=>r=.none/\Q (.ref e) s') E ⟨h',gs,dr,tk,os⟩):q_ (D_ prog w) A (call (.ref C) us) Q E ⟨h,gs,dr,tk,os⟩:=by
 have f1:=tc_lookup;have f2:=tc_bind (.ref C);have hT:Shared.TypeIs ⟨h,gs,dr,tk,os⟩ (.ref C) "type" := ⟨_,hC,rfl⟩
 refine Ta (codeAny_of_tree ?_);show q_ _ _ (callAny (.ref C) _) _ _ _
 repeat (any_goals (first
  |assumption
  |with_reducible refine S9 hC ?_
  |wp_step))
 exact⟨rfl,codeAny_call_builtin_at (V4 _ (by decide+kernel)) entry_typeCall (wpAny_check_type_call_sub hC (LB XF T hC hn hi hf hfc hz fun h' e hm=>hq h' e hm))⟩
theorem MD{M:V7}{s:d_}{x:Sem a_}{env:Env}{Q:Flow->d_->Prop}(hb:bm.contains (.type "BaseException")=true)(hh:A.handled=none)(hx:q_ M A x (fun v s1=>∃e t od,v=.ref e/\s1.heap.get? C=some (Q2 nm ql C N bs bm hdct sn sub ab col dd k0 k1 k2 k3 k5 nw)/\s1.heap.get? e=some (e8 C t od)/\E (.ref e) s1) E s):q_ M A (raiseStmt env (some x) none) Q E s:=by
 have hcB:(Value.ref C::bm).contains (.type "BaseException")=true:=by rw[R8,hb,TM]
 unfold raiseStmt;refine b_ (QP hx (fun v s1 h1=>?_) fun _ _ z=>z);obtain⟨e,t,od,rfl,hC,he,hE⟩:=h1;obtain⟨hp,g,d,tk,os⟩:=s1
 repeat (first
  |with_reducible refine S9 he ?_
  |with_reducible refine S9 hC ?_
  |(with_reducible refine RZ hC ?_;rw[hcB])
  |wp_step)
 exact wpAny_raiseNew_none hh hE
end
theorem Pr{self:a_}{bm:List a_}{h:Heap}(T:Ve h gp bm):refuseLoop self "__setattr__" bm=pure ():=by induction T with
|base=>exact UV.passes self
|own _ _ _ _ ih=>rw[refuseLoop_ref];exact ih
section
variable{prog:A_}{w:M_}{A:K_}{E:a_->d_->Prop}{h:Heap}{gs:Array W7}{dr:Drawn}{tk:Nat}{os:OsState}
variable{nm ql:Str}{C N e t:Addr}{bs bm:List a_}{sn:List Str}{sub:List a_}{ab:Bool}{col:Option Bool}{dd:Option Addr}{k0 k1 k2 k3 k5:Option a_}{nw:String}{K:W.Frag}{name:Str}{v:a_}
theorem Bj{Q:Unit->d_->Prop}(kin:K.In h)(hC:h.get? C=some (Q2 nm ql C N bs bm true sn sub ab col dd k0 k1 k2 k3 k5 nw))(T:Ve h gp bm)(he:h.get? e=some (e8 C t none))(g0:Tu K (.ref C) "__setattr__" = some (some (.builtin "object.__setattr__")))(g1:Tu K (.ref C) name=some none)(hq:∀h' dx tk',h.get? dx=none->h'.get? e=some (e8 C t (some dx))->h'.Ns1 dx (fun y=>if y=name then some v else none)->(∀b o,b≠e->h.get? b=some o->h'.get? b=some o)->Q () ⟨h',gs,dr,tk',os⟩):q_ (D_ prog w) A (setAttr (.ref e) name v) Q E ⟨h,gs,dr,tk,os⟩:=by
 have f3:=UV.slot.bind (.ref e);have hcB:(Value.ref C::bm).contains (.type "object")=true:=by rw[R8,yW T (by decide+kernel),TM]
 have L0:Looks (D_ prog w) h (UE (.ref e) (.type "object")) true:=by intro A Q E s k q;unfold UE;refine b_ (Rj (k _ _ he) ?_);obtain⟨hh,a1,a2,a3,a4⟩:=s;exact RZ (k _ _ hC) (by rw[hcB];exact q)
 unfold setAttr callSpecial? specialOf;refine b_ (Wj ?_);refine b_ (b_ (b_ (Rj he (TU kin g0 _ _ _ _ (fun b o e=>e) ?_))));refine Ro ?_;rw[f3];refine b_ (j_ (b_ (Ta ?_)));have SF:=PySem.F.store_object;refine Tc SF.slot.plain SF.entry (@check_slot (D_ prog w) _ _ ⟨h,gs,dr,tk+1,os⟩ "object.__setattr__" "object" "__setattr__" (.ref e) [.str name tk,v] [] _ SF.kind SF.split L0 (SF.args (.ref e) (.str name tk) v) ?_);show q_ _ _ (RE.«object.__setattr__» ⟨[.ref e,.str name tk,v],[]⟩) _ _ _;rw[osa_eq,refuse_eq];refine b_ (b_ (Rj he (b_ (wpAny_mroOf_exc hC ?_))));rw[refuseLoop_ref,Pr T];refine j_ (b_ (Rj he (b_ (TU kin g1 _ _ _ _ (fun b o e=>e) ?_))));refine b_ ?_;show q_ _ _ (pure none) _ _ _;refine j_ ?_;have hx1:(h.push { cls:=.type "dict",data:=.dict #[] }).get? e=some (e8 C t none):=e_ _ he;have hxs:e≠h.objs.size:=O_ (s_ he);refine b_ (j_ (b_ (b_ (TR he (b_ ?_)))));unfold classData;refine b_ (W9 hC (j_ ?_));refine b_ (wpAny_alloc' (b_ (wpAny_update' hx1 (j_ ?_))));have hgd:((h.push { cls:=.type "dict",data:=.dict #[] }).update e fun o=>{ o with dict:=some h.objs.size }).get? h.objs.size=some { cls:=.type "dict",data:=.dict #[] }:=(Q5 _ _ _ _ hxs.symm).trans (Wk rfl rfl);have hnd:((h.push { cls:=.type "dict",data:=.dict #[] }).update e fun o=>{ o with dict:=some h.objs.size }).Ns h.objs.size (fun _=>none):=⟨_,#[],_,hgd,rfl,fun e he=>absurd he (by simp),fun _=>rfl⟩
 show q_ _ _ (T2 h.objs.size (.str name tk) name v) _ _ _;unfold T2 WG;refine b_ (j_ (b_ (wpAny_nsSet1 (Heap.Ns1.of_empty hnd) fun h' hn' hs=>?_)));obtain⟨oD,esD,epD,hoD,hdD,hcD⟩:=hn'.count (Within.cons name v Within.nil);refine b_ (wpAny_lookBehind hoD (by rw[hdD];exact pastItsLine_dict (QI hcD (by rw[Q8,Tr,QK];omega))) ?_);have hx':h'.get? e=some (e8 C t (some h.objs.size)):=(hs.2 e hxs).trans (Q4 _ hx1 rfl);refine j_ (show q_ _ _ (pure (some Value.none)) _ _ _ from j_ (j_ (hq h' h.objs.size _ (Sg (r_ _)) hx' hn' fun b o hb hbo=>?_)));exact(hs.2 b (O_ (s_ hbo))).trans ((Q5 _ _ _ _ hb).trans (e_ _ hbo))
theorem JO{x:a_}{Q:a_->d_->Prop}(hC:h.get? C=some (Q2 nm ql C N bs bm true sn sub ab col dd k0 k1 k2 k3 k5 "ValueError.__new__"))(T:Ve h gp bm)(he:h.get? e=some (e8 C t none))(hq:∀h' t',h'.get? e=some (e8 C t' none)->(∀b o,b≠e->h.get? b=some o->h'.get? b=some o)->Q .none ⟨h',gs,dr,tk,os⟩):q_ (D_ prog w) A (call (.builtin "ValueError.__init__") [.ref e,x]) Q E ⟨h,gs,dr,tk,os⟩:=by
 have XF:=UG;refine Ta (Tc XF.init.plain XF.initEntry (wpAny_check_init_subT XF T hC he rfl ?_))
 wp_walk
 refine hq _ h.objs.size ?_ fun b o hb hbo=>?_
 .rw[Q4 _ (e_ _ he) rfl];rfl
 .rw[Q5 _ _ _ _ hb];exact e_ _ hbo
end
def XR(e C:Addr)(od:Option Addr):Heap->Prop:=fun h=>∃t,h.get? e=some (e8 C t od)
theorem XR.ok{P:A_}{w:M_}{H:Hp}{h:Heap}{e C t:Addr}{od:Option Addr}(x:h.get? e=some (e8 C t od)):dz P w H h e (.ext (XR e C od)):=⟨⟨t,x⟩,⟨_,x⟩,fun h1 h2 ⟨t,q⟩ k=>⟨t,k _ q⟩⟩
structure XI(K:W.Frag)(C:Addr)(bm:List a_)(f:Str):Prop where
 ob:∃N nm q bs sn sub ab col dd k0 k1 k2 k3 k5,K.lookup C=some (Q2 nm q C N bs bm true sn sub ab col dd k0 k1 k2 k3 k5 "ValueError.__new__")
 tl:∀h,K.In h->Ve h gp bm
 g0:Tu K (.ref C) "__setattr__" = some (some (.builtin "object.__setattr__"))
 g1:Tu K (.ref C) f=some none
structure XT(K:W.Frag)(T:Addr):Prop where
 sp:WE K (.ref T) "__getattribute__" = some (some (.builtin "type.__getattribute__"))
 rd:readsIn K T (.type "type")=true
 fc:findCls K (.ref T) (.type "type") "__init__" = some (.val (.builtin "ValueError.__init__"))
section
variable{X:Cx}{e:Expr}{ps:List Expr}{te:TE}{n k:Nat}{c:L2.St->Prop}{pos:Pos}{v₁ v₂:Expr}
def PJ(X:Cx)(ps:List Expr)(n:Nat)(c:L2.St->Prop):Prop:=∀(pz:List (Addr×Obj))(s:d_)(σ:L2.St)(H:Hp)(out:Str)(Q:a_->d_->Prop),Inv X pz σ H s->c σ->out.length+n<=1000000 ->(∀x t s',x.length<=sizeLine->Inv X pz σ H s'->Q (.str x t) s')->q_ (D_ X.prog X.w) X.A (joinParts out (Ub ps X.env)) Q X.xe s
theorem IL:PJ X [] 0 c:=fun pz s σ H out Q I _ hl q=>by
 have hz:out.length<=sizeLine:=by rw[QK];omega
 exact joinParts_nil (q out _ _ hz (I.tok _)) hz
theorem Dx(he:PE X e te)(hr:PJ X ps n c)(h:∀σ H Q,c σ->(∀x:Str,x.length<=k->Q (.str x) H)->te σ H Q)(hs:Ub (e::ps) X.env=eval e X.env::Ub ps X.env:=by rfl):PJ X (e::ps) (k+n) c:=fun pz s σ H out Q I hc hl q=>by
 rw[hs];refine joinParts_cons (bU (he pz s σ H (fun x H1=>∃y:Str,y.length<=k/\x=.str y/\H1=H) I (h σ H _ hc fun x hx=>⟨x,hx,rfl,rfl⟩)) fun u s1 ⟨x,H1,I1,r,y,hy,hx,hH⟩=>?_);subst hx hH;obtain⟨t,rfl⟩:=(show ∃t,u=Value.str y t from r)
 have e1:(out++y).length=out.length+y.length:=strLen_append _ _;refine⟨by rw[QK];omega,hr pz s1 σ _ _ Q I1 hc (by omega) q⟩
theorem IM{a:Str}{j:Nat}{p:Pos}(hr:PJ X ps n c)(hs:Ub (.Constant (.str a) j p::ps) X.env=eval (.Constant (.str a) j p) X.env::Ub ps X.env:=by rfl):PJ X (.Constant (.str a) j p::ps) (a.length+n) c:=Dx CN hr (fun σ H Q _ q=>q a (r_ _)) hs
theorem Jn{tv:TE}(hv:PE X e tv):PE X (.FormattedValue e (-1) none pos) (fun σ H Q=>tv σ H fun x H1=>∃i:Int,x=.int i/\i.natAbs.log2<64/\∀z:Str,z.length<=65->Q (.str z) H1):=by
 intro pz s σ H Q I h;refine FormattedValue_plain (bU (hv pz s σ H _ I h) fun u s1 ⟨x,H1,I1,r,i,hx,hi,q⟩=>?_);subst hx;obtain⟨t,rfl⟩:=(show ∃t,u=Value.int i t from r)
 refine formatField_int_small (by omega) ⟨.str (l_ (toString i)),H1,I1.tok _,⟨_,rfl⟩,q _ ?_⟩;rw[PySem.ofString_length];exact int_text_length_le (by omega) hi
theorem IK{j:Nat}{x:Str}{p:Pos}(hN:X.N[j]? = some x)(hv:jC X.env.scope x)(hr:PJ X ps n c)(hc:∀σ,c σ->∃i:Int,σ[j]? = some (some (.int i))/\i.natAbs.log2<64)(hd:(x==("__debug__" : Str))=false:=by decide)(hcd:(x==("__classdict__" : Str))=false:=by decide)(hs:Ub (.FormattedValue (.Name x p) (-1) none pos::ps) X.env=eval (.FormattedValue (.Name x p) (-1) none pos) X.env::Ub ps X.env:=by rfl):PJ X (.FormattedValue (.Name x p) (-1) none pos::ps) (65+n) c:=Dx (Jn (kS hN hv hd hcd)) hr (fun σ H Q h q=>by obtain⟨i,e1,e2⟩:=hc σ h;exact⟨_,e1,i,rfl,e2,q⟩) hs
theorem GS(h:PJ X (v₁::v₂::ps) n c)(hn:n<=1000000)(hs:Ub (v₁::v₂::ps) X.env=eval v₁ X.env::eval v₂ X.env::Ub ps X.env:=by rfl):PE X (.JoinedStr (v₁::v₂::ps) pos) (fun σ H Q=>c σ/\∀x:Str,x.length<=sizeLine->Q (.str x) H):=by
 intro pz s σ H Q I ⟨hc,q⟩;refine JoinedStr_many ?_;have:=h pz s σ H Str.empty (EP X pz σ Q) I hc (by show 0+n<=_;omega) fun x t s' hx I'=>⟨.str x,H,I',⟨t,rfl⟩,q x hx⟩
 rw[hs]at this;exact this
end
section
variable{X:Cx}{a:Expr}{as:List Expr}{t:TA}{x:Str}{T:Addr}{p apos pos:Pos}{pl:Sem Bool}
theorem Kt(hg:Gl X x)(hm:X.mg x=some (.ref T))(hT:XT X.K T)(ha:PA X (a::as) t)(hdb:(x==("__debug__" : Str))=false:=by decide)(ht:eval (.Call (.Attribute (.Name x p) "__init__" apos) (a::as) [] pos) X.env=(do
   let ov <-eval (.Name x p) X.env
   W4 apos.atName
   let(f,first) <-Uo [ov] (getMethod ov "__init__" pl)
   callWith pos f first (backTo pos (h_ (a::as) X.env)) (Vr pos (T9 [] X.env))):=by rfl)(hs:h_ (a::as) X.env=(false,eval a X.env)::h_ as X.env:=by rfl)(hplain:(backTo pos (h_ as X.env)).any (·.1)=false:=by rfl):PE X (.Call (.Attribute (.Name x p) "__init__" apos) (a::as) [] pos) (fun σ H Q=>t σ H fun vs H1=>∃e C bm f y,vs=[.ref e,y]/\H1 e=some (.ext (XR e C none))/\XI X.K C bm f/\Q .non H1):=by
 intro pz s σ H Q I h;refine methodCall_KW (pl:=pl) (l7 I hg hm ?_ hdb) ht;refine method_cls I.kIn hT.sp (cls_value (mc:=.type "type") I.kIn hT.rd hT.fc rfl ?_);have I0:=I.tok (s.toks+1);have hA:=ha pos pz _ σ H _ I0 h;rw[hs]at hA ⊢;refine TJ (by show(false || (backTo pos (h_ as X.env)).any (·.1))=false;rw[hplain] <;> rfl) (Vs ?_);refine bU hA fun us s1 ⟨vs,H1,I1,r,e,C,bm,f,y,hv,he,xi,q⟩=>?_;subst hv;obtain⟨u,z,rfl,r1,r2⟩:=sk r;cases(show u=Value.ref e from r1);obtain⟨⟨t,g1⟩,_,_⟩:=I1.hok e _ he;obtain⟨N,nm,ql,bs,sn,sub,ab,col,dd,k0,k1,k2,k3,k5,ob⟩:=xi.ob;refine JO (I1.kIn _ _ ob) (xi.tl _ I1.kIn) g1 fun h' t' g2 g3=>⟨.non,H1,?_,rfl,q⟩
 have:=I1.write (x:=e) (e:=e) (o:=.ext (XR e C none)) (h':=h') (t':=s1.toks) (by rw[he];trivial) (.inl rfl) g3 ⟨_,g2⟩ (XR.ok g2);rw[show upd H1 e (.ext (XR e C none))=H1 from by funext b;unfold upd;split <;> simp_all]at this;exact this
theorem KB{o v:Expr}{f:Str}{to tv:TE}{p':Pos}(ho:PE X o to)(hv:PE X v tv)(hs:TY v (some (.Attribute o f p')) pos.line X.env=pure false:=by rfl):PS X (.Assign [.Attribute o f p'] v pos) (fun D σ H=>tv σ H fun y H1=>to σ H1 fun x H2=>∃e C bm,x=.ref e/\H2 e=some (.ext (XR e C none))/\XI X.K C bm f/\∀dx,H2 dx=none->dx≠e->D.nx σ (upd (upd H2 dx (.xd [(f,y)])) e (.ext (XR e C (some dx))))):=by
 intro pz s σ H D I h;refine plainObj_wpAny_Assign_Attribute (bU (hv pz s σ H _ I h) fun u s1 ⟨y,H1,I1,ry,q⟩=>bU (ho pz s1 σ H1 _ I1 q) fun ov s2 ⟨x,H2,I2,rx,e,C,bm,ex,he,xi,q2⟩=>?_) hs;subst ex;obtain rfl:ov=Value.ref e:=rx;obtain⟨⟨t,g1⟩,_,_⟩:=I2.hok e _ he;obtain⟨N,nm,ql,bs,sn,sub,ab,col,dd,k0,k1,k2,k3,k5,ob⟩:=xi.ob;refine Bj I2.kIn (I2.kIn _ _ ob) (xi.tl _ I2.kIn) g1 xi.g0 xi.g1 fun h' dx tk' n1 n2 n3 n4=>?_;have hdx:H2 dx=none:=by cases z:H2 dx with
 |none=>rfl
 |some ho=>obtain⟨o,z2⟩:=sy (I2.hok dx _ z);rw[n1]at z2;cases z2
 have hde:dx≠e:=fun z=>by rw[z,g1]at n1;cases n1
 have old:∀b u,H2 b=some u->b≠e->upd (upd H2 dx (.xd [(f,y)])) e (.ext (XR e C (some dx))) b=some u:=fun b u hb hne=>by rw[cM hne,cM (fun z=>by rw[z,hdx]at hb;cases hb)];exact hb
 refine⟨σ,upd (upd H2 dx (.xd [(f,y)])) e (.ext (XR e C (some dx))),?_,q2 dx hdx hde⟩;refine I2.call' (ch:=[]) rfl ⟨fun b o hb hn _ _=>n4 b o (fun z=>by rw[z,he]at hn;cases hn) hb,fun b o hb hn _ _=>⟨o.slots,n4 b o (fun z=>by rw[z,he]at hn;cases hn) hb⟩,fun b o hb hn _=>?_,fun b o hb _=>?_,fun b xs hb=>old b _ hb (fun z=>by rw[z,he]at hb;cases hb),fun b o u hb=>old b _ hb (fun z=>by rw[z,he]at hb;cases hb),fun b ps hb=>⟨#[],by simpa using old b _ hb (fun z=>by rw[z,he]at hb;cases hb)⟩⟩ (fun b u hb=>?_) I2.bare fun b hb=>absurd hb (by simp)
 .rw[cM (fun z=>by rw[z,he]at hn;cases hn),cM (fun z=>by rw[z,n1]at hb;cases hb)];exact hn
 .by_cases z:b=e
  .exact⟨_,by rw[z];exact n2⟩
  .exact⟨o,n4 b o z hb⟩
 .by_cases z:b=e
  .subst z;rw[du]at hb;cases hb;exact XR.ok n2
  .rw[cM z]at hb;by_cases z2:b=dx
   .subst z2;rw[du]at hb;cases hb;refine⟨_,n3,fun g=>?_⟩;show fE (VA g [(f,y)]) _;rw[VA];by_cases hg:g=f
    .subst hg;simp only[beq_self_eq_true,if_pos];exact ry
    .rw[show(g==f)=false from by simpa using hg,if_neg hg];exact True.intro
   .rw[cM z2]at hb;refine(I2.hok b u hb).stay (fun c v hc hcv=>n4 c v (fun zz=>?_) hcv) (fun c hc=>old c _ hc fun zz=>by rw[zz,he]at hc;cases hc) fun c xs hc=>old c _ hc fun zz=>by rw[zz,he]at hc;cases hc
    rcases hc with rfl|hc
    .exact z zz
    .rw[zz,he]at hc;cases hc
end
theorem GO{K:W.Frag}{h:Heap}{N:Addr}{mg:Str->Option a_}{n:Str}{v:a_}(X:K.In h)(G:h.Ns N mg)(e:nsIn K N n=some (some v)):mg n=some v:=by
 obtain⟨o,es,ep,ho,hd,_,hf⟩:=G;unfold nsIn at e;split at e
 .rename_i c d es' n' sl q;have hx:=X _ _ q;rw[ho]at hx;cases hx;cases hd;split at e
  .rename_i en he;rw[<-hf];unfold nsFind findBy;rw[<-Array.find?_toList,he]
   first|exact z_ e|(cases e;rfl)
  .split at e <;> cases e
 .cases e
def vO(C:Addr)(f:Str):Sp:=fun vs H Q _=>∃e i,vs=[.ref e,.int i]/\i.natAbs.log2<64/\H e=some (.ext (XR e C none))/\∀dx,H dx=none->dx≠e->Q .non (upd (upd H dx (.xd [(f,.int i)])) e (.ext (XR e C (some dx))))
def cI(σ:L2.St):Prop:=∃i:Int,σ[1]? = some (some (.int i))/\i.natAbs.log2<64
def Be(K:W.Frag)(f:Str):TS:=qQ (Cm (fun σ H Q=>wL (li 0) (wL (fun σ H Q=>cI σ/\∀x:Str,x.length<=sizeLine->Q (.str x) H) qS) σ H fun vs H1=>∃e C bm f y,vs=[.ref e,y]/\H1 e=some (.ext (XR e C none))/\XI K C bm f/\Q .non H1))
 (fun D σ H=>li 1 σ H fun y H1=>li 0 σ H1 fun x H2=>∃e C bm,x=.ref e/\H2 e=some (.ext (XR e C none))/\XI K C bm f/\∀dx,H2 dx=none->dx≠e->D.nx σ (upd (upd H2 dx (.xd [(f,y)])) e (.ext (XR e C (some dx)))))
theorem Lg{P:A_}{w:M_}{K:W.Frag}{mg:Str->Option a_}{base:Heap}{qual y f:Str}{st:Stmt}{fI C:Addr}{fd:Q7}{bm:List a_}{k:Nat}(F:Fun K "__init__" qual st fI fd)(S:FnScope ["self",y] ["self",y] (aM st))(xi:XI K C bm f)(hb:∀(cdv:a_)(A:K_)(outer:List Env)(s:d_)(H:Hp)(E:XK),eY (cX dN P w K mg base ["self",y] qual (aM st) fI cdv A outer s H E).nox (aW st) (Be K f)):FnOk P w K mg base dN (k+1) fI fd ["self",y] (vO C f):=by
 refine F.ok S (fun vs H Q E ⟨e,i,h,_⟩=>by rw[h];rfl) fun cdv A outer s H vs Q E hr ⟨e,i,hv,hi,he,q⟩=>⟨_,hb cdv A outer s H E,?_⟩
 subst hv;exact⟨_,rfl,⟨i,rfl,hi⟩,fun x _=>⟨e,C,bm,f,_,rfl,he,xi,_,rfl,_,rfl,e,C,bm,rfl,he,xi,fun dx h1 h2=>q dx h1 h2⟩⟩
structure XCI(P:A_)(w:M_)(K:W.Frag)(mg:Str->Option a_)(base:Heap)(x:Str)(C:Addr)(f:Str):Prop where
 bound:mg x=some (.ref C)
 keep:keepIn K (.ref C)=true
 ex:∃bm fI fd y oI N nm ql bs sn sub ab col dd k0 k1 k2 k3 k5,XI K C bm f/\K.lookup C=some (Q2 nm ql C N bs bm true sn sub ab col dd k0 k1 k2 k3 k5 "ValueError.__new__")/\nsOkIn K N=true/\nsIn K N "__init__" = some (some (.ref fI))/\K.lookup fI=some oI/\oI.cls=.type "function" /\ik K fd ["self",y] []/\FnOk P w K mg base dN 1 fI fd ["self",y] (vO C f)
section
variable{X:Cx}{pz:List (Addr×Obj)}{σ:L2.St}{H:Hp}{s:d_}
theorem Inv.exc{h':Heap}{e C:Addr}{vs:List a_}(I:Inv X pz σ H s)(m:s.heap.MadeExcOf h' e (.ref C) vs):H e=none/\Inv X pz σ (upd H e (.ext (XR e C none))) { heap:=h',gens:=s.gens,drawn:=s.drawn,toks:=s.toks,os:=s.os }:=by
 obtain⟨t,m1,m2,m3⟩:=m.there;have hn:H e=none:=by cases z:H e with
 |none=>rfl
 |some u=>obtain⟨o,z2⟩:=sy (I.hok e u z);rw[m.new]at z2;cases z2
 have old:∀b u,H b=some u->upd H e (.ext (XR e C none)) b=some u:=fun b u hb=>by rw[cM (fun z=>by rw[z,hn]at hb;cases hb)];exact hb
 refine⟨hn,I.call' (ch:=[]) rfl ⟨fun b o hb _ _ _=>m.keeps b o hb,fun b o hb _ _ _=>⟨o.slots,m.keeps b o hb⟩,fun b o hb hz _=>?_,fun b o hb _=>⟨o,m.keeps b o hb⟩,fun b xs hb=>old b _ hb,fun b o u hb=>old b _ hb,fun b ps hb=>⟨#[],by simpa using old b _ hb⟩⟩ (fun b u hb=>?_) I.bare fun b hb=>absurd hb (by simp)⟩
 .rw[cM (fun z=>by rw[z,m.new]at hb;cases hb)];exact hz
 .by_cases z:b=e
  .subst z;rw[du]at hb;cases hb;exact XR.ok m1
  .rw[cM z]at hb;exact(I.hok b u hb).stay (fun c v _ hc=>m.keeps c v hc) (fun c hc=>old c _ hc) fun c xs hc=>old c _ hc
theorem Fly.init{s':d_}{h':Heap}{e C dx:Addr}{vs:List a_}{f:Str}{y:V}(I:Inv X pz σ H s)(m:s.heap.MadeExcOf h' e (.ref C) vs)(os:s'.os=s.os)(bare:TC s'.gens)(un:Un (dw X.stack) [] (upd H e (.ext (XR e C none))) (upd (upd (upd H e (.ext (XR e C none))) dx (.xd [(f,y)])) e (.ext (XR e C (some dx)))) h' s'.heap)(hok:dR X.prog X.w (upd (upd (upd H e (.ext (XR e C none))) dx (.xd [(f,y)])) e (.ext (XR e C (some dx)))) s'.heap)(hdx:upd H e (.ext (XR e C none)) dx=none)(hde:dx≠e):H dx=none/\Fly X.prog X.w X.stack H s (upd H dx (.xd [(f,y)])) e (.ref C) (some dx) s':=by
 obtain⟨hn,I2⟩:=Inv.exc I m;have hd:H dx=none:=by rw[cM hde]at hdx;exact hdx
 have ne:∀b o,s.heap.get? b=some o->b≠e:=fun b o hb z=>by rw[z,m.new]at hb;cases hb
 have up:∀b,b≠e->upd (upd (upd H e (.ext (XR e C none))) dx (.xd [(f,y)])) e (.ext (XR e C (some dx))) b=upd H dx (.xd [(f,y)]) b:=fun b hb=>by
  rw[cM hb];by_cases z:b=dx
  .subst z;rw[du,du]
  .rw[cM z,cM z,cM hb]
 have up0:∀b,b≠e->upd H e (.ext (XR e C none)) b=H b:=fun b hb=>cM hb;have he2:upd H dx (.xd [(f,y)]) e=none:=by rw[cM hde.symm];exact hn
 have inn:∀b u,upd H dx (.xd [(f,y)]) b=some u->b≠e:=fun b u hb z=>by rw[z,he2]at hb;cases hb
 obtain⟨⟨t,g1⟩,_,_⟩:=hok e _ du;have un2:Un (dw X.stack) [] H (upd H dx (.xd [(f,y)])) s.heap s'.heap:=by
  refine⟨fun b o hb hz hf hx=>un.keep b o (m.keeps b o hb) (by rw[up0 b (ne b o hb)];exact hz) hf hx,fun b o hb hz hf hx=>un.slot b o (m.keeps b o hb) (by rw[up0 b (ne b o hb)];exact hz) hf hx,fun b o hb hz hx=>?_,fun b o hb hx=>un.there b o (m.keeps b o hb) hx,fun b xs hb=>?_,fun b o u hb=>?_,fun b ps hb=>?_⟩
  .rw[<-up b (ne b o hb)];exact un.free b o (m.keeps b o hb) (by rw[up0 b (ne b o hb)];exact hz) hx
  .have hbe:b≠e:=fun z=>by rw[z,hn]at hb;cases hb
   rw[<-up b hbe];exact un.tups b xs (by rw[up0 b hbe];exact hb)
  .have hbe:b≠e:=fun z=>by rw[z,hn]at hb;cases hb
   rw[<-up b hbe];exact un.frzs b o u (by rw[up0 b hbe];exact hb)
  .have hbe:b≠e:=fun z=>by rw[z,hn]at hb;cases hb
   rw[<-up b hbe];exact un.tbls b ps (by rw[up0 b hbe];exact hb)
 have hok2:dR X.prog X.w (upd H dx (.xd [(f,y)])) s'.heap:=fun b u hb=>by
  refine(hok b u (by rw[up b (inn b u hb)];exact hb)).stay (fun c v _ hc=>hc) (fun c hc=>?_) fun c xs hc=>?_
  .have:c≠e:=fun z=>by rw[z,du]at hc;cases hc
   rw[<-up c this];exact hc
  .have:c≠e:=fun z=>by rw[z,du]at hc;cases hc
   rw[<-up c this];exact hc
 refine⟨hd,os,bare,un2,hok2,Wc s'.heap (e::dw X.stack),fun b o hb=>Xh _ hb,Wd _ k_,?_,⟨_,_,g1,rfl,fun d hd=>by cases hd;rfl,rfl,.inl rfl⟩,fun b o hb hf=>?_,fun b u hb=>?_⟩
 .have key:∀l:List Env,(∀b∈dw l,b∈dw X.stack)->s.heap.FunFrames X.base l->s'.heap.FunFrames (Wc s'.heap (e::dw X.stack)) l:=by
   intro l
   induction l with
  |nil=>intro _ _;unfold TK;trivial
  |cons env l ih=>intro hs hf;unfold TK at hf ⊢;obtain⟨f1,⟨L,o,f2,f3,f4,f5⟩,f6⟩:=hf;have hL:L∈dw X.stack:=hs L (by unfold dw;rw[Rb,f2];exact k_);obtain⟨sl,hsl⟩:=un2.slot L o f4 (I.stkFree L hL) hL (by simp);refine⟨f1,⟨L,_,f2,Wd _ (m_ _ hL),hsl,f5⟩,ih (fun b hb=>hs b ?_) f6⟩;unfold dw;rw[Rb,f2];exact m_ _ hb
  exact key X.stack (fun _ hb=>hb) I.stack
 .obtain⟨o',ho'⟩:=un2.there b o hb (by simp);exact⟨o',Vu _ ho' fun z=>by
   rcases w_.mp z with z|z
   .exact ne b o hb z
   .exact hf z⟩
 .obtain⟨o,eo⟩:=sy (hok2 b u hb);refine⟨o,Vu _ eo fun z=>?_⟩;rcases w_.mp z with z|z
  .exact inn b u hb z
  .have h1:=I.stkFree b z;by_cases zz:b=dx
   .obtain⟨_,ob,hob,_⟩:=I.stack.mem z;have:=un2.free b ob hob h1 (by simp);rw[this]at hb;cases hb
   .rw[cM zz,h1]at hb;cases hb
end
section
variable{X:Cx}{pz:List (Addr×Obj)}{σ:L2.St}{H:Hp}{s:d_}{x f:Str}{C:Addr}{np cpos pos:Pos}{a:Expr}{t:TA}
theorem N5{Q:Flow->d_->Prop}(I:Inv X pz σ H s)(hc:X.calm=true)(c:XCI X.prog X.w X.K X.mg X.base x C f)(hr:Room 2 X.A)(hg:Gl X x)(ha:PA X [a] t)(h:t σ H fun vs H1=>∃i,vs=[.int i]/\i.natAbs.log2<64/\∀s1 e dx s',Inv X pz σ H1 s1->H1 dx=none->Fly X.prog X.w X.stack H1 s1 (upd H1 dx (.xd [(f,.int i)])) e (.ref C) (some dx) s'->X.xe (.ref e) s')(hdb:(x==("__debug__" : Str))=false:=by decide)(he:h_ [a] X.env=(false,eval a X.env)::h_ [] X.env:=by rfl)(hpl:(backTo cpos (h_ [] X.env)).any (·.1)=false:=by rfl):q_ (D_ X.prog X.w) X.A (exec (.Raise (some (.Call (.Name x np) [a] [] cpos)) none pos) X.env) Q X.xe s:=by
 obtain⟨bm,fI,fd,y,oI,N,nm,ql,bs,sn,sub,ab,col,dd,k0,k1,k2,k3,k5,xi,ob,hns,hni,hfI,hfc,hbd,F⟩:=c.ex;rw[arm_exec_Raise];refine b_ (Tj (MD (C:=C) (nm:=nm) (ql:=ql) (N:=N) (bs:=bs) (bm:=bm) (hdct:=true) (sn:=sn) (sub:=sub) (ab:=ab) (col:=col) (dd:=dd) (k0:=k0) (k1:=k1) (k2:=k2) (k3:=k3) (k5:=k5) (nw := "ValueError.__new__") (yW (xi.tl _ I.kIn) (by decide+kernel)) (I.ok.hd hc)
  (b_ (QP (R7 (l7 I hg c.bound ?_ hdb)) (fun v s3 h3=>b_ (Tj (j_ h3))) fun _ _ z=>z))))
 refine callWith_K (h₀:=X.base) I.ok.mod.kin c.keep (bU (ha cpos pz s σ H _ I h) fun us s1 ⟨vs,H1,I1,r,i,hv,hi,q⟩=>⟨I1.kIn,?_⟩) he hpl;subst hv;obtain⟨u,rfl,ru⟩:=r.one;obtain⟨hp,gs,dr,tk,os⟩:=s1;refine NG (us:=[u]) UG (xi.tl _ I1.kIn) (I1.kIn _ _ ob) (Vk (Xg I1.kIn hns)) ?_ (I1.kIn _ _ hfI) hfc (by rw[QK];show 1<=16777216;decide) fun h' e m=>?_
 .exact GO I1.kIn (Vk (Xg I1.kIn hns)) hni
 obtain⟨hn,I2⟩:=Inv.exc I1 m;have e0:=I2.env0.make C [u] [];refine Ta (TF (F.run _ X.stack _ _ ⟨[.ref e,u],[]⟩ [.ref e,u] [.ref e,.int i] (fun v H'=>v=.non/\∃dx,upd H1 e (.ext (XR e C none)) dx=none/\dx≠e/\H'=upd (upd (upd H1 e (.ext (XR e C none))) dx (.xd [(f,.int i)])) e (.ext (XR e C (some dx)))) (fun _ _ _=>False) (hr.make C [u] []) e0 (hbd _ [.ref e,u] I2.kIn rfl) (.cons rfl (.cons ru .nil)) ⟨e,i,rfl,hi,du,fun dx h1 h2=>⟨rfl,dx,h1,h2,rfl⟩⟩) fun r s' hq=>?_);cases r with
|error e=>exact QF hq
|ok fl=>cases fl with
 |ret z=>obtain⟨v,H',o1,o2,o3,o4,o5,rfl,dx,d1,d2,rfl⟩:=hq;obtain⟨hd,fl⟩:=Fly.init I1 m o1 o2 o3 o4 d1 d2;obtain⟨⟨t,g1⟩,_,_⟩:=o4 e _ du;exact⟨o5,e,t,some dx,rfl,(I1.call' (ch:=[]) fl.os fl.un fl.hok fl.bare (fun b z=>absurd z (by simp))).kIn _ _ ob,g1,q _ e dx s' I1 hd fl⟩
 |next=>exact QF hq
 |brk=>exact QF hq
 |cont=>exact QF hq
end
def rZ(m:List Md)(nm f:Str)(fl:aS->Res (List D)):FS:=fun r=>onE m r (fl r) fun ds=>match ds with
|[.int i]=>if i.natAbs.log2<64 then .exc (xD nm [(f,.int i)]) (forget m r)else .stuck
|_=>.stuck
section
variable{X:Cx}{g:GE}{ro:Bool}{m mb:List Md}{a e:Expr}{fl:aS->Res (List D)}{fe:FE}{x f nm:Str}{C:Addr}{p np pos:Pos}
theorem ML(hc:X.calm=true)(c:XCI X.prog X.w X.K X.mg X.base x C f)(xn:XN X.K nm C)(hr:Room 2 X.A)(hg:Gl X x)(ha:SA X g m [a] fl)(hdb:(x==("__debug__" : Str))=false:=by decide)(he:h_ [a] X.env=(false,eval a X.env)::h_ [] X.env:=by rfl)(hpl:(backTo p (h_ [] X.env)).any (·.1)=false:=by rfl):SS X g ro mb m (.Raise (some (.Call (.Name x np) [a] [] p)) none pos) (rZ m nm f fl) m:=by
 refine⟨rfl,fun pz s σ H D I ⟨r,G,si,q⟩=>?_⟩;refine N5 I hc c hr hg ha ⟨r,G,si,?_⟩ hdb he hpl;refine cY (ip si rfl q) fun ds q vs G' H' w' rs=>?_;split at q
 .rename_i i;split at q
  .rename_i hi;cases rs with
  |cons r1 rest=>cases rest;have hv:=r1.int w'.ok;subst hv;refine⟨i,rfl,hi,fun s1 e dx s' I1 hd fl=>?_⟩;have gw:Grow X.K G' H' (gset G' dx (.obj 1 [(f,.int i)])) (upd H' dx (.xd [(f,.int i)])):=Grow.newF w'.ok hd (OB.fld du (.cons ⟨rfl,.scl (.int i)⟩ .nil));exact q pz (.ref e) s' σ _ _ (w'.trans gw).ge (by have:=(si.grow (w'.trans gw)).forget;exact this) (fl.inv I1) ⟨pz,s1,H',e,C,some dx,nm,[(f,.int i)],rfl,rfl,xn,fU,I1,fl⟩
  .exact q.elim
 .exact q.elim
def lf(hit:Str->Bool)(f:Str):D->Option D
|.obj 0 ((_,.str nm)::ds)=>if hit nm=true then ds.lookup f else none
|_=>none
def pG(K:W.Frag)(f:Str)(hit:Str->Bool):Prop:=∀nm C,hit nm=true->XN K nm C->∃bm,XA K C bm/\XI K C bm f
theorem Ju{ta:TE}(he:PE X e ta)(hb:RN e f X.env (eval e X.env)=eval e X.env):PE X (.Attribute e f pos) (fun σ H Q=>ta σ H fun x H1=>∃a C bm dx fs v,x=.ref a/\H1 a=some (.ext (jB a C (some dx)))/\XA X.K C bm/\XI X.K C bm f/\H1 dx=some (.xd fs)/\fs.lookup f=some v /\(∀u,aY v u->handedIn u=true)/\Q v H1):=by intro pz s σ H Q I h;refine JM hb (bU (he pz s σ H _ I h) fun u s1 ⟨x,H1,I1,rx,a,C,bm,dx,fs,v,ex,ea,xa,xi,ed,l,hh,q⟩=>?_);subst ex;obtain rfl:u=Value.ref a:=rx;obtain⟨⟨oe,vs,o1,o2,o3,o4⟩,_,_⟩:=I1.hok a _ ea;obtain⟨N,nm,ql,bs,sn,sub,ab,col,dd,k0,k1,k2,k3,k5,ob⟩:=xi.ob;obtain⟨mA,n1,n2⟩:=I1.hok dx _ ed;have n3:=n2 f;rw[l]at n3;unfold getAttr;refine b_ (Wj ?_);cases hm:mA f with
|none=>rw[hm]at n3;exact QF n3
|some z=>rw[hm]at n3;exact Dm (s:={ heap:=s1.heap,gens:=s1.gens,drawn:=s1.drawn,toks:=s1.toks+1,os:=s1.os }) I1.kIn (I1.kIn _ _ ob) o1 o2 xa.be xa.ga xa.gn (HD (s:={ heap:=s1.heap,gens:=s1.gens,drawn:=s1.drawn,toks:=s1.toks+1,os:=s1.os }) I1.kIn (I1.kIn _ _ ob) o1 o2 o4 (o3 dx rfl) n1.ns xi.g1 hm (handedOut_of (hh z n3)) ⟨v,H1,I1.tok _,n3,q⟩)
theorem BE.look{K:W.Frag}{G:GH}{fs:List (Str×V)}{ds:List (Str×D)}{d:D}(h:BE K G fs ds)(l:ds.lookup f=some d):∃v,fs.lookup f=some v/\RG K G v d:=by induction h with
|nil=>cases l
|@cons p q fs ds r _ ih=>
  obtain⟨a,v⟩:=p;obtain⟨b,d'⟩:=q;obtain⟨r1,r2⟩:=r;have r1:a=b:=r1;subst r1;rw[VA]at l ⊢;split at l
  .rename_i hb;cases l;exact⟨v,rfl,r2⟩
  .rename_i hb;exact ih l
theorem Hc{hit:Str->Bool}(hx:pG X.K f hit)(he:SB X g m e fe)(hb:RN e f X.env (eval e X.env)=eval e X.env:=by rfl):SE X g m (.Attribute e f pos) (f1 fe (lf hit f)):=by
 refine PE.imp (Ju he hb) fun σ H Q ⟨r,G,si,q⟩=>⟨r,G,si,cY (c6 q) fun d q1 v G1 H1 w1 r1=>?_⟩
 obtain⟨d',e',q2⟩:=dZ q1;unfold lf at e';split at e'
 .rename_i k nm ds;split at e'
  .rename_i hh;obtain⟨a,C,dx,rfl,ha,xn,hG⟩:∃a C dx,v=.ref a/\H1 a=some (.ext (jB a C (some dx)))/\XN X.K nm C/\G1 dx=some (.obj 1 ds):=by
    rcases r1 with h|⟨a,rfl,h⟩
    .cases h with
    |scl s=>cases s
    |ref e2=>cases w1.ok _ _ e2 with
     |@exc _ _ od _ r n fl=>cases od with
      |none=>cases(show ds=[]from fl);cases e'
      |some dx=>exact⟨_,_,dx,rfl,r,n,fl⟩
    |kc k=>cases k
    .cases h.ob
   obtain⟨bm,xa,xi⟩:=hx nm C hh xn;cases w1.ok _ _ hG with
  |fld hd rf=>obtain⟨v',l,rv⟩:=rf.look e';refine⟨a,C,bm,dx,_,v',rfl,ha,xa,xi,hd,l,fun u hu=>?_,q2 v' G1 H1 w1 rv⟩;cases rv with
   |scl s=>cases s <;> first|(obtain⟨_,rfl⟩:=hu;rfl)|(cases hu;rfl)
   |ref _=>cases(show u=Value.ref _ from hu);rfl
   |kc _=>cases(show u=Value.ref _ from hu);rfl
  .cases e'
 .cases e'
end
def rn(K:W.Frag)(C:Addr):Option Addr:=match K.lookup C with
|some ⟨_,_,.cls cd,_⟩=>some cd.ns
|_=>none
def iu(K:W.Frag)(C N:Addr):Bool:=match K.lookup C with
|some ⟨.type "type",_,.cls cd,sl⟩=>(match cd.mro,sl.toList with
 |.ref C'::bm,[_,_,_,_,some (.builtin n),_]=>C'==C&&n == "ValueError.__new__" && ! cd.hasDel&&cd.hasDict&&tailIn K gp bm&&nsOkIn K cd.ns&&cd.ns==N
 |_,_=>false)
|_=>false
theorem IB{K:W.Frag}{C N:Addr}(h:iu K C N=true):∃bm,(∃nm q bs sn sub ab col dd k0 k1 k2 k3 k5,K.lookup C=some (Q2 nm q C N bs bm true sn sub ab col dd k0 k1 k2 k3 k5 "ValueError.__new__"))/\tailIn K gp bm=true/\nsOkIn K N=true:=by
 unfold iu at h;split at h
 .rename_i dict cd sl hk;split at h
  .rename_i C' bm k0 k1 k2 k3 n k5 hm hs;simp only[J_,beq_iff_eq,S2]at h;obtain⟨⟨⟨⟨⟨⟨rfl,rfl⟩,hd⟩,hx⟩,ht⟩,hn⟩,rfl⟩:=h;obtain⟨nm',bs,mro,ns,q,hdct,sn,sub,ab,col,hdel⟩:=cd;have e1:mro=Value.ref C'::bm:=hm;have e2:hdel=false:=hd;have e4:hdct=true:=hx;subst e1 e2 e4;have e3:sl = #[k0,k1,k2,k3,some (Value.builtin "ValueError.__new__"),k5]:=by cases sl with
   |mk l=>exact congrArg Array.mk hs
   subst e3;exact⟨bm,⟨_,_,_,_,_,_,_,_,_,_,_,_,_,hk⟩,ht,hn⟩
  .cases h
 .cases h
theorem Ci{K:W.Frag}{C N:Addr}{bm:List a_}{nm:Str}(h:iu K C N=true)(o:dO K C=some (bm,nm)):(∃nm q bs sn sub ab col dd k0 k1 k2 k3 k5,K.lookup C=some (Q2 nm q C N bs bm true sn sub ab col dd k0 k1 k2 k3 k5 "ValueError.__new__"))/\tailIn K gp bm=true/\nsOkIn K N=true:=by
 obtain⟨bm',⟨nm',q,bs,sn,sub,ab,col,dd,k0,k1,k2,k3,k5,h1⟩,h2,h3⟩:=IB h;obtain⟨⟨N1,nm1,q1,bs1,hd1,sn1,sub1,ab1,col1,dd1,a0,a1,a2,a3,a5,nw1,z1⟩,_⟩:=wM o;rw[h1]at z1;have:bm'=bm:=by have e1:=congrArg Obj.data (z_ z1);have e2:=Data.cls.inj e1;have e3:=congrArg ClassData.mro e2;exact(List.cons.inj e3).2
 subst this;exact⟨⟨_,_,_,_,_,_,_,_,_,_,_,_,_,h1⟩,h2,h3⟩
theorem rJ{K:W.Frag}{C N:Addr}{bm:List a_}{nm f:Str}(h:iu K C N=true)(o:dO K C=some (bm,nm))(g0:Tu K (.ref C) "__setattr__" = some (some (.builtin "object.__setattr__")))(g1:Tu K (.ref C) f=some none):XI K C bm f:=by obtain⟨⟨nm',q,bs,sn,sub,ab,col,dd,k0,k1,k2,k3,k5,h1⟩,h2,h3⟩:=Ci h o;exact⟨⟨N,nm',q,bs,sn,sub,ab,col,dd,k0,k1,k2,k3,k5,h1⟩,fun h kin=>tail_of_in kin h2,g0,g1⟩
theorem Hl{P:A_}{w:M_}{K:W.Frag}{h:Heap}{mg:Str->Option a_}{x y f qual nm:Str}{C N fI:Addr}{bm:List a_}{st:Stmt}{fd:Q7}(KX:K.In h)(G:h.Ns N_ mg)(a:nsIn K N_ x=some (some (.ref C)))(kp:keepIn K (.ref C)=true)(z:iu K C N=true)(o:dO K C=some (bm,nm))(xi:XI K C bm f)(i:nsIn K N "__init__" = some (some (.ref fI)))(F:Fun K "__init__" qual st fI fd)(fc:typeIn K (.ref fI)=some (.type "function"))(hb:∀(kV doc pm:a_)(an:Option Addr)(cdv ct:a_)(us:List a_),us.length=([("self" : Str),y]).length->Tk (W.fnOf "__init__" qual (bS st) (aW st) (aM st) .none kV doc pm an cdv ct) ⟨us,[]⟩=pure (([("self" : Str),y]).zip us))(ok:∀base,FnOk P w K mg base dN 1 fI fd ["self",y] (vO C f))(base:Heap):XCI P w K mg base x C f:=by obtain⟨⟨nm',q,bs,sn,sub,ab,col,dd,k0,k1,k2,k3,k5,h1⟩,h2,h3⟩:=Ci z o;obtain⟨oI,lI,hI⟩:=Vc.mp (show(K.lookup fI).map (·.cls)=some (.type "function")from fc);exact⟨mg_of KX G a,kp,bm,fI,fd,y,oI,N,nm',q,bs,sn,sub,ab,col,dd,k0,k1,k2,k3,k5,xi,h1,h3,i,lI,hI,F.binds hb,ok base⟩
def HI(s:Stmt):Stmt:=match s with
|.ClassDef _ _ _ (d::_) _ _ _ _ _ _ _=>d
|_=>s
section
variable{P:A_}{w:M_}{K:W.Frag}{mg:Str->Option a_}{base:Heap}
theorem qc{x:Str}{st:Stmt}{N ps:List Str}{k:Nat}{ro:Bool}{ms:List Md}{fs:FS}{m':List Md}{dds:List a_}(A:DefAtD K mg x st dds)(S:FnScope N ps (aM st))(hms:ms.length=ps.length)(hb:∀(T:Addr)(kV doc pm:a_)(an:Option Addr)(cdv ct:a_)(us:List a_),us.length=ps.length->∃kk:Option (Array a_)->Sem (List (Str×a_)),Tk (W.fnOf x x (bS st) (aW st) (aM st) (.ref T) kV doc pm an cdv ct) ⟨us,[]⟩=Ww (.ref T) >>= kk/\kk (some dds.toArray)=pure (ps.zip (us++[])))(hbody:∀(f:Addr)(cdv:a_)(A:K_)(outer:List Env)(s:d_)(H:Hp)(g:GE)(E:XK),Room k (A.deeper (Sj x (aM st) s.heap.objs.size f cdv)) ->fP (cX (mz P w) P w K mg base N x (aM st) f cdv A outer s H E) g ro [] (i4 N.length ms) (aW st) fs m'):CalleeX P w K mg base x ps [] (k+1) ro ms fun ds=>bP ro (fs (cO N.length ds)):=by
 obtain⟨f,T,o,n,oc,od,kV,doc,pm,an,cdv,ct,osl,h1,hT,hd,lk,hcd,kp⟩:=A.ex;refine⟨f,W.fnOf x x (bS st) (aW st) (aM st) (.ref T) kV doc pm an cdv ct,h1,kp,fun s us KX hl=>?_,?_⟩
 .obtain⟨kk,e1,e2⟩:=hb T kV doc pm an cdv ct us (by simpa using hl);exact VM rfl (KX _ _ hT) hd e1 e2
 .refine rO lk hcd S (fun vs H Q E ⟨G,ds,gk,rs,q⟩=>rs.len.1.trans hms) fun A outer s H vs Q E hr h=>?_;obtain⟨G,ds,gk,rs,q⟩:=h;have hpl:ps.length<=N.length:=by have:=congrArg Tw S.pre;rw[QM]at this;omega
  refine⟨_,(hbody f cdv A outer s H ⟨G,H,fun _=>none⟩ E hr).2,cO N.length ds,G,qd gk rs (by omega),?_⟩;replace q:fin (bP ro (fs (cO N.length ds))) _ _:=q;cases e:fs (cO N.length ds)with
 |nx r'=>rw[e]at q;cases ro with
  |false=>exact fun σ' G' H' _ si=>q .non G' H' si.grown (.scl .non)
  |true=>exact q.elim
 |rt d=>rw[e]at q;exact fun v G' H' wg rv=>q v G' H' wg rv
 |bk r'=>rw[e]at q;exact q.elim
 |ct r'=>rw[e]at q;exact q.elim
 |exc x r'=>rw[e]at q;intro pz ev s' σ' G' H' le si I ex;obtain⟨pins1,s1,H1,a,C,od1,nm,fs1,rfl,rfl,xn,xf,I1,fl⟩:=ex;exact fl.leaves I1 rfl rfl rfl fun s'' fl2=>⟨a,_,H',od1,rfl,fl2,q C od1 nm fs1 G' H' rfl xn xf si.grown⟩
 |stuck=>rw[e]at q;exact q
end
theorem Hi{K:W.Frag}{f:Str}{hit:Str->Bool}(l:List (Str×Addr×List a_))(h:∀q∈l,CF K q.1 q.2.1 q.2.2/\XI K q.2.1 q.2.2 f)(hh:∀nm,hit nm=true->∃q∈l,q.1=nm):pG K f hit:=by intro nm C hn xn;obtain⟨q,hq,rfl⟩:=hh nm hn;obtain⟨c,xi⟩:=h q hq;have:=c.eq xn;subst this;exact⟨_,c.xa,xi⟩
section
variable{X:Cx}{tg:Expr}
theorem KA{iter:Expr}{body:List Stmt}{wi:TI}{g:TG}{tb:TS}{pos:Pos}(hc:X.calm=true)(hi:PI X tg iter wi)(hg:PG X.nox tg g)(hb:eY X.nox body tb)(hs:∀x,Rv iter X.env x=pure x:=by intro _;rfl):PS X (.For tg iter body [] pos) (qU wi g tb):=by
 intro pz s σ H D I h;refine wpAny_For (bU (hi pz s σ H _ I h) fun v s1 h1=>bU h1 fun itv s2 h2=>?_) hs;obtain⟨it,fp,tn,J,H2,e,I2,T,st2,f2,W,⟨m0,w0⟩,turn⟩:=h2;subst e;have stat:∀{H':Hp},(∀b∈fp,H' b=none)->∀b∈fp,eV X pz H' b:=fun hn b hb=>⟨hn b hb,(f2 b hb).2⟩
 refine VI (fun n s'=>∃i σ' H',L2.Inv X pz σ' H' s'/\tn i s'.heap/\(∀b∈fp,H' b=none)/\W i n σ' H') ?_ m0 ⟨0,σ,H2,I2,st2,fun b hb=>(f2 b hb).1,w0⟩
 rintro n s3 ⟨i,σ3,H3,I3,st3,fr3,w3⟩
 rcases turn i n σ3 H3 w3 with⟨stop,qn⟩|⟨go,N,hN,step⟩
 .refine QP (T.done X rfl rfl rfl hc i pz s3 σ3 H3 (fun _ _=>False) I3 (stat fr3) st3 stop) (fun r s4 ⟨hr,I4⟩=>?_) fun _ _ z=>QF z;subst hr;exact SL ⟨σ3,H3,I4,qn⟩
 .refine QP (T.item X rfl rfl rfl hc i pz s3 σ3 H3 (fun _ _=>False) I3 (stat fr3) st3 go) (fun r s4 ⟨u,hr,h4⟩=>?_) fun _ _ z=>QF z;subst hr;refine QP h4 (fun _ s5 ⟨x,H5,I5,r5,y5,st5,fr5⟩=>?_) fun _ _ z=>QF z;have I5':=I5.pinned (stat fr5) (T.obj _ _ st5);refine QP (hg _ s5 σ3 H5 x u _ (I5'.wish _) r5 (step x H5 y5)) (fun _ s6 ⟨σ6,H6,I6,q6⟩=>?_) fun _ _ z=>QF z;refine QP (hb _ s6 σ6 H6 _ I6 q6) (fun f s7 q7=>?_) fun _ _ z=>QF z;have again:∀{σ7:L2.St}{H7:Hp},L2.Inv X (pz++ou fp s5.heap) σ7 H7 s7->N σ7 H7->∃m,m<n/\∃i σ' H',L2.Inv X pz σ' H' s7/\tn i s7.heap/\(∀b∈fp,H' b=none)/\W i m σ' H':=fun{σ7 H7} I7 n7=>by obtain⟨m',hm,w7⟩:=hN σ7 H7 n7;refine⟨m',hm,i+1,σ7,H7,I7.unpinned,T.keep _ _ _ st5 fun b hb o e=>(I7.pin (b,o) (H_ _ (H_ _ (pb hb e)))).1,fun b hb=>?_,w7⟩;obtain⟨o,e,d⟩:=T.obj _ _ st5 b hb;exact(I7.pin (b,o) (H_ _ (H_ _ (pb hb e)))).2.1
  cases f with
 |next=>obtain⟨σ7,H7,I7,n7⟩:=q7;exact again I7.unwish n7
 |cont=>obtain⟨σ7,H7,I7,n7⟩:=q7;exact again I7.unwish n7
 |brk=>obtain⟨σ7,H7,I7,q7⟩:=q7;exact⟨σ7,H7,I7.unwish.unpinned,q7⟩
 |ret v=>obtain⟨x7,σ7,H7,I7,r7,q7⟩:=q7;exact⟨x7,σ7,H7,I7.unwish.unpinned,r7,q7⟩
end
def lC(s:FS):FS:=fun r=>match s r with
|.exc _ _=>.stuck
|o=>o
def sv(m:List Md)(fi:FI)(ft:FT)(body:FS):FS:=fun r=>onE m r (fi r) fun ds=>bT ft (lC body) ds r
section
variable{X:Cx}{g:GE}{ro:Bool}{m mb:List Md}{tg iter:Expr}{sts:List Stmt}{s1:FS}{pos:Pos}
theorem Kj(hc:X.calm=true){ft:FT}{fi:FI}(hi:jW X g m tg iter fi)(hg:SG X.nox g m tg ft m)(hb:fP X.nox g ro m m sts s1 m)(hs:∀x,Rv iter X.env x=pure x:=by intro _;rfl):SS X g ro mb m (.For tg iter sts [] pos) (sv m fi ft s1) m:=by
 refine⟨rfl,PS.imp (KA hc hi hg.2 hb.2 hs) fun D σ H ⟨r,G,si,q⟩=>⟨r,G,si,cY (ip si rfl q) fun ds q J G0 H0 w0 Y=>?_⟩⟩;refine⟨fun i n σ H=>∃r G,SI X g m r G σ H/\bY G0 G/\i<=ds.length/\n=ds.length-i/\dC X g ro m mb G D (bT ft (lC s1) (ds.drop i) r),⟨ds.length,r,G0,si.grow w0,bY.refl G0,QU _,rfl,dC.gle q w0.ge⟩,?_⟩
 rintro i n σ1 H1 ⟨r1,G1,si1,le1,hi,rfl,q1⟩
 by_cases hlt:i<ds.length
 .have hd:ds.drop i=ds[i]::ds.drop (i+1):=RF hlt;rw[hd]at q1;unfold bT at q1;refine .inr ⟨Y.go G1 H1 i le1 si1.gok hlt,fun σ' H'=>∃r G,SI X g m r G σ' H'/\bY G0 G/\dC X g ro m mb G D (bT ft (lC s1) (ds.drop (i+1)) r),fun σ' H' ⟨r',G',si',le',q'⟩=>⟨ds.length-(i+1),by omega,r',G',si',le',hlt,rfl,q'⟩,fun x H' y=>?_⟩;obtain⟨G',w',rv⟩:=Y.yld G1 H1 i x H' ds[i] le1 si1.gok y (g_ hlt);have le':bY G0 G':=le1.trans w'.ge;cases eft:ft ds[i] r1 with
 |none=>simp only[eft]at q1;exact q1.elim
 |some r2=>
   simp only[eft]at q1;have si1':SI X g m r1 G' σ1 H':=si1.grow w';refine⟨r1,G',ds[i],⟨si1'.gok,si1'.old,si1'.ge,si1'.gf,si1'.lm,si1'.lr,si1'.sh,si1'.ow,si1'.bw,si1'.dis,si1'.lk⟩,rv,r2,eft,fun σ2 si2=>⟨r2,G',si2,?_⟩⟩;have back:∀{m:List Md}{r:aS}{G:GH}{σ:L2.St}{H:Hp},SI X.nox g m r G σ H->SI X g m r G σ H:=fun z=>⟨z.gok,z.old,z.ge,z.gf,z.lm,z.lr,z.sh,z.ow,z.bw,z.dis,z.lk⟩
   have en:lC s1 r2=match s1 r2 with
   |.exc _ _=>.stuck
   |o=>o:=rfl
   cases eb:s1 r2 with
  |nx r'=>simp only[en,eb]at q1;exact fun σ3 G3 H3 le3 si3=>⟨r',G3,back si3,le'.trans le3,dC.gle q1 (bY.trans w'.ge le3)⟩
  |ct r'=>simp only[en,eb]at q1;exact fun σ3 G3 H3 le3 si3=>⟨r',G3,back si3,le'.trans le3,dC.gle q1 (bY.trans w'.ge le3)⟩
  |bk r'=>simp only[en,eb]at q1;exact fun σ3 G3 H3 le3 si3=>q1 σ3 G3 H3 (bY.trans w'.ge le3) (back si3)
  |rt d=>simp only[en,eb]at q1;exact q1
  |exc x r'=>simp only[en,eb]at q1;exact q1.elim
  |stuck=>simp only[en,eb]at q1;exact q1.elim
 .have e:i=ds.length:=by omega
  subst e;rw[Tf]at q1;exact .inl ⟨Y.stop G1 H1 le1 si1.gok,q1 σ1 G1 H1 (bY.refl _) si1⟩
end
structure IsxT(K:W.Frag)(cs:List Addr)(tab:Str->Option Bool):Prop where
 no:kitAny K (.type "NoneType") (cs.map Value.ref)=some false
 ex:∀nm b C,tab nm=some b->XN K nm C->∃bm,XA K C bm/\kitAny K (.ref C) (cs.map Value.ref)=some b
end DL
namespace L2
open PySem PySem.Spec PyProof.Rows
structure RoomH(k:Nat)(A:K_):Prop where
 dp:A.depth+3*k+5<Uw
 un:A.units+16*k+200<R6
theorem RoomH.mono{j k:Nat}{A:K_}(r:RoomH k A)(h:j<=k):RoomH j A:=⟨by have:=r.dp;omega,by have:=r.un;omega⟩
theorem RoomH.deeper{k:Nat}{A:K_}(r:RoomH (k+1) A)(env:Env):RoomH k (A.deeper env):=⟨by have:=r.dp;show A.depth+1+3*k+5<_;omega,by have:=r.un;show A.units+3+16*k+200<_;omega⟩
theorem RoomH.depth{k:Nat}{A:K_}(r:RoomH k A):A.depth<Uw:=by have:=r.dp;omega
theorem RoomH.units{k:Nat}{A:K_}(r:RoomH k A):A.units+64<R6:=by have:=r.un;omega
theorem HG{A:K_}{k:Nat}(hr:RoomH k A):A.units+1<R6:=VY (VJ (by decide:1<=64) _) hr.units
structure FnOkH(P:A_)(w:M_)(K:W.Frag)(mg:Str->Option a_)(base:Heap)(CX:gY)(k:Nat)(f:Addr)(fd:Q7)(ps:List Str)(sp:Sp):Prop where
 len:∀vs H Q E,sp vs H Q E->vs.length=ps.length
 run:∀(A:K_)(outer:List Env)(s:d_)(H:Hp)(args:Args)(us:List a_)(vs:List V)(Q:VK)(E:XK),RoomH k A->Env0 P w K mg base A outer s H->U8 s fd args (ps.zip us)->aU vs us->sp vs H Q E ->UK (D_ P w) A (.call (.ref f) args) (CR CX outer P w H s Q E) s
def nR(CX:gY)(P:A_)(w:M_)(K:W.Frag)(mg:Str->Option a_)(base:Heap)(N:List Str)(qual:Str)(scope:Sz)(f:Addr)(cd:a_)(A:K_)(outer:List Env)(s:d_)(H:Hp)(E:XK):Cx:={ cX CX P w K mg base N qual scope f cd A outer s H E with calm:=false }
theorem OW{CX:gY}{P:A_}{w:M_}{K:W.Frag}{mg:Str->Option a_}{base:Heap}{N ps:List Str}{qual:Str}{scope:Sz}{f:Addr}{cd:a_}{A:K_}{outer:List Env}{s s1:d_}{H:Hp}{E:XK}{us:List a_}{vs:List V}(S:FnScope N ps scope)(e0:Env0 P w K mg base A outer s H)(hl:vs.length=ps.length)(r:aU vs us)(x:InCallC s s.heap.objs.size (WN (Sj qual scope s.heap.objs.size f cd).kindOf (ps.zip us) fun _=>none) (VE (s.heap.objs.size+1) scope.names []) (WO (Sj qual scope s.heap.objs.size f cd).kindOf (ps.zip us) fun _=>none) s1):Inv (nR CX P w K mg base N qual scope f cd A outer s H E) [] (cR N vs) H s1:=by
 have hpl:ps.length<=N.length:=by have:=congrArg Tw S.pre;rw[QM]at this;omega
 obtain⟨h1,tk,rfl,hk⟩:=x.done;have noA:∀b:Addr,b∉(nR CX P w K mg base N qual scope f cd A outer s H E).ex:=fun b z=>absurd (show b∈([]:List Addr)from z) (by simp);refine⟨⟨e0.mod,S.kind,rfl,rfl,r_ _,fun y z c h1 h2=>?_,fun y hy=>?_,fun y c _ h=>?_,(fun z=>nomatch z),Vq e0.frames,.inr ⟨rfl,rfl⟩,fun b z=>absurd z (noA b),e0.bs,e0.bsz,fun b _ _=>noA b,fun b z=>absurd z (noA b),e0.funs,e0.frf⟩,rfl,e0.bare,Un.kept hk,⟨_,x.toInCall.ns,fun i y v h1 h2 h3=>?_⟩,fun y c h=>⟨_,x.cell y c h⟩,e0.hok.fresh (r_ _),fun y c h=>?_,fun p hp=>absurd (show p∈([]:List (Addr×Obj))from hp) (by simp),e0.hok.kept hk,?_⟩
 .exact name_of_addr x.apart (QR h1) (QR h2)
 .have hy:scope.names.lookup y=some .cell\/scope.names.lookup y=some .free:=hy;rcases hy with hy|hy
  .exact sQ hy
  .exact absurd rfl (S.nofree _ (QR hy))
 .exact Ul (x.above y c (QR h))
 .have hi:i<vs.length:=by
   unfold cR at h2;by_cases hi:i<vs.length
   .exact hi
   .rw[Q6 (by simpa using hi)]at h2;rw[Re]at h2;split at h2 <;> cases h2
  have ha:vs[i]? = some v:=by unfold cR at h2;rw[I_ (by simpa using hi),F_]at h2;cases e:vs[i]? with
  |none=>rw[e]at h2;cases h2
  |some a=>rw[e]at h2;cases h2;rfl
  obtain⟨u,hu,rv⟩:=r.get ha;have hp:ps[i]? = some y:=by rw[<-S.pre,UP (by omega)];exact h1
  have ndP:ps.Nodup:=by rw[<-S.pre];exact S.nd.sublist (UL _ _)
  refine⟨u,rv,?_⟩;rcases S.par y (Q1 hp)with k|k
  .exact .inl ⟨k,zG ndP hp hu k⟩
  .obtain⟨c,e⟩:=sQ (n:=s.heap.objs.size+1) k;refine .inr ⟨.inl k,c,e,?_⟩;have q:=x.cell y c e;rw[zF ndP hp hu (by show scope.names.lookup y≠_;rw[k];decide)]at q;exact q
 .exact e0.hok.fresh (Ul (x.above y c (QR h)))
 .unfold cR;show _=N.length;rw[L_,p_,RH];omega
theorem Iq{CX:gY}{P:A_}{w:M_}{K:W.Frag}{mg:Str->Option a_}{base:Heap}{k:Nat}{f:Addr}{name qual:Str}{params:X7}{body:List Stmt}{scope:Sz}{dV kV doc pm cdv ct oc:a_}{an od:Option Addr}{osl:Array (Option a_)}{N ps:List Str}{sp:Sp}(lk:K.lookup f=some ⟨oc,od,.func (W.fnOf name qual params body scope dV kV doc pm an cdv ct),osl⟩)(hcd:W.codeIn K cdv qual=true)(S:FnScope N ps scope)(len:∀vs H Q E,sp vs H Q E->vs.length=ps.length)(hbody:∀(A:K_)(outer:List Env)(s:d_)(H:Hp)(vs:List V)(Q:VK)(E:XK),RoomH k (A.deeper (Sj qual scope s.heap.objs.size f cdv))->sp vs H Q E ->∃t,eY (nR CX P w K mg base N qual scope f cdv A outer s H E) body t/\t { nx:=fun _ H'=>Q .non H',rt:=Q } (cR N vs) H):FnOkH P w K mg base CX (k+1) f (W.fnOf name qual params body scope dV kV doc pm an cdv ct) ps sp:=by
 refine⟨len,fun A outer s H args us vs Q E hr e0 hb r hsp=>?_⟩;have hl:=len _ _ _ _ hsp;have KX:K.In s.heap:=e0.mod.kin.keeps fun b o e=>(e0.bs b o e).1;have lim:s.heap.NoLimit:=e0.mod.nolimit.keeps fun b o e=>(e0.bs b o e).1;have hkind:∀y∈ps.zip us,scope.names.lookup y.1=some .local\/(scope.names.lookup y.1=some .cell/\((VE (s.heap.objs.size+1) scope.names []).lookup y.1).isSome=true):=fun⟨n,v⟩ hy=>by
  rcases S.par n (Uf hy).1 with q|q
  .exact .inl q
  .exact .inr ⟨q,W.cellsFrom_some _ _ _ (.inl q)⟩
 refine Vm hr.depth (KX _ _ lk) rfl S.co S.gen rfl (W.codeRec_of KX hcd) (hb _ _ _ _ ?_);refine Ux S.kind hkind fun env he s1 x=>?_;subst he;refine⟨lim.keeps x.toInCall.keep,codeAny_func ?_⟩;obtain⟨t,ht,hq⟩:=hbody A outer s H vs Q E (hr.deeper _) hsp;have I:Inv (nR CX P w K mg base N qual scope f cdv A outer s H E) [] (cR N vs) H s1:=OW S e0 hl r x;refine QP (ht [] s1 (cR N vs) H _ I hq) (fun fl s' hs=>?_) fun e s' hs=>hs;have fin:∀{σ':St}{H':Hp}{v:V}{u:a_},Inv (nR CX P w K mg base N qual scope f cdv A outer s H E) [] σ' H' s'->aY v u->Q v H'->CE outer P w H s Q u s':=fun{σ' H' v u} J rv q=>⟨v,H',J.os,J.bare,J.base,J.hok,rv,q⟩
 cases fl with
|ret u=>obtain⟨v,σ',H',J,rv,q⟩:=hs;exact fin J rv q
|next=>obtain⟨σ',H',J,q⟩:=hs;exact fin (v:=V.non) (u:=Value.none) J rfl q
|brk=>obtain⟨_,_,_,q⟩:=hs;exact QF q
|cont=>obtain⟨_,_,_,q⟩:=hs;exact QF q
section
variable{P:A_}{w:M_}{K:W.Frag}{mg:Str->Option a_}{base:Heap}
theorem Fun.okH{x qual:Str}{st:Stmt}{f:Addr}{fd:Q7}{N ps:List Str}{k:Nat}{sp:Sp}(F:Fun K x qual st f fd)(S:FnScope N ps (aM st))(len:∀vs H Q E,sp vs H Q E->vs.length=ps.length)(hbody:∀(cdv:a_)(A:K_)(outer:List Env)(s:d_)(H:Hp)(vs:List V)(Q:VK)(E:XK),RoomH k (A.deeper (Sj qual (aM st) s.heap.objs.size f cdv))->sp vs H Q E ->∃t,eY (nR dN P w K mg base N qual (aM st) f cdv A outer s H E).nox (aW st) t/\t { nx:=fun _ H'=>Q .non H',rt:=Q } (cR N vs) H):FnOkH P w K mg base dN (k+1) f fd ps sp:=by obtain⟨oc,od,kV,doc,pm,an,cdv,ct,osl,rfl,lk,hcd⟩:=F.ex;refine Iq lk hcd S len fun A outer s H vs Q E hr hsp=>?_;obtain⟨t,h,q⟩:=hbody cdv A outer s H vs Q E hr hsp;exact⟨t,h.nox,q⟩
end
section
variable{X:Cx}{CX:gY}{k:Nat}{f C:Addr}{fd:Q7}{ps:List Str}{sp:Sp}{dvs:List V}{ds:List a_}{E:XK}{x m:Str}{p pos apos:Pos}{e o:Expr}{es:List Expr}{ta:TE}{t:TA}
theorem LY{pz:List (Addr×Obj)}{σ:St}{H:Hp}{s:d_}{Q:VK}{us:List a_}{vs:List V}(F:FnOkH X.prog X.w X.K X.mg X.base CX k f fd ps sp)(hr:RoomH k X.A)(hb:ik X.K fd ps ds)(hd:aU dvs ds)(hx:pU CX X E)(I:Inv X pz σ H s)(r:aU vs us)(h:sp (vs++dvs) H Q E):q_ (D_ X.prog X.w) X.A (call (.ref f) us) (EP X pz σ Q) X.xe s:=by
 have r2:aU (vs++dvs) (us++ds):=r.append hd;have hl:(us++ds).length=ps.length:=by rw[<-r2.length];exact F.len _ _ _ _ h
 refine Ta (TF (F.run X.A X.stack s H ⟨us,[]⟩ (us++ds) (vs++dvs) Q E hr I.env0 (hb s us I.kIn hl) r2 h) fun r s' hq=>?_);cases r with
|error e=>exact hx pz σ H s e s' I hq
|ok fl=>cases fl with
 |ret u=>exact I.after hq
 |next=>exact QF hq
 |brk=>exact QF hq
 |cont=>exact QF hq
theorem M7(F:FnOkH X.prog X.w X.K X.mg X.base CX k f fd ps sp)(hr:RoomH k X.A)(hg:Gl X x)(hm:X.mg x=some (.ref f))(hk:W.keepIn X.K (.ref f)=true)(hb:ik X.K fd ps ds)(hd:aU dvs ds)(hx:pU CX X E)(ha:PA X (e::es) t)(hdb:(x==("__debug__" : Str))=false:=by decide)(he:h_ (e::es) X.env=(false,eval e X.env)::h_ es X.env:=by rfl)(hpl:(backTo pos (h_ es X.env)).any (·.1)=false:=by rfl):PE X (.Call (.Name x p) (e::es) [] pos) (Ck sp dvs E t):=by intro pz s σ H Q I h;refine R7 (l7 I hg hm ?_ hdb);refine W.callWith_K (h₀:=X.base) I.ok.mod.kin hk (bU (ha pos pz s σ H _ I h) fun us s1 ⟨vs,H1,I1,r,q⟩=>⟨I1.kIn,?_⟩) he hpl;exact LY F hr hb hd hx I1 r q
end
end L2
section
namespace L2
open PySem
theorem RoomH.held{k:Nat}{A:K_}{v:Option a_}(r:Room k A):RoomH k (A.mark v):=⟨r.dp,r.un⟩
end L2
namespace DL
open PySem PySem.Spec PyProof.Rows L2 PySem.W PySem.Calls
structure CalleeH(P:A_)(w:M_)(K:W.Frag)(mg:Str->Option a_)(base:Heap)(x:Str)(ps:List Str)(k:Nat)(ms:List Md)(F:List D->Res D):Prop where
 ex:∃f fd,mg x=some (.ref f)/\W.keepIn K (.ref f)=true/\ik K fd ps []/\FnOkH P w K mg base dN k f fd ps (kr K false ms F)
section
variable{P:A_}{w:M_}{K:W.Frag}{mg:Str->Option a_}{base:Heap}
theorem KY{x:Str}{st:Stmt}{N ps:List Str}{k:Nat}{ms:List Md}{fs:FS}{m':List Md}(A:DefAt K mg x st)(S:FnScope N ps (aM st))(hms:ms.length=ps.length)(hb:∀(kV doc pm:a_)(an:Option Addr)(cdv ct:a_)(us:List a_),us.length=ps.length->Tk (W.fnOf x x (bS st) (aW st) (aM st) .none kV doc pm an cdv ct) ⟨us,[]⟩=pure (ps.zip us))(hbody:∀(f:Addr)(cdv:a_)(A:K_)(outer:List Env)(s:d_)(H:Hp)(g:GE)(E:XK),RoomH k (A.deeper (Sj x (aM st) s.heap.objs.size f cdv)) ->fP (nR dN P w K mg base N x (aM st) f cdv A outer s H E).nox g false [] (i4 N.length ms) (aW st) fs m'):CalleeH P w K mg base x ps (k+1) ms fun ds=>bP false (fs (cO N.length ds)):=by
 obtain⟨f,fd,h1,F⟩:=A.ex;refine⟨f,fd,h1,F.kp,F.binds hb,F.okH S (fun vs H Q E ⟨G,ds,gk,rs,q⟩=>rs.len.1.trans hms) fun cdv A outer s H vs Q E hr h=>?_⟩;obtain⟨G,ds,gk,rs,q⟩:=h;have hpl:ps.length<=N.length:=by have:=congrArg Tw S.pre;rw[QM]at this;omega
 exact⟨_,(hbody f cdv A outer s H ⟨G,H,fun _=>none⟩ E hr).2,cO N.length ds,G,qd gk rs (by omega),yE q⟩
end
section
variable{X:Cx}{g:GE}{m:List Md}{e:Expr}{es:List Expr}{fl:aS->Res (List D)}{k:Nat}{ps:List Str}{F:List D->Res D}{x:Str}{p pos:Pos}{ms:List Md}
theorem Do(c:CalleeH X.prog X.w X.K X.mg X.base x ps k ms F)(hr:RoomH k X.A)(ha:jX X g m (e::es) ms fl)(hg:Gl X x:=by rfl)(hdb:(x==("__debug__" : Str))=false:=by decide)(he:h_ (e::es) X.env=(false,eval e X.env)::h_ es X.env:=by rfl)(hpl:(backTo pos (h_ es X.env)).any (·.1)=false:=by rfl):SE X g m (.Call (.Name x p) (e::es) [] pos) (bX fl [] F):=by
 obtain⟨fa,fd,h1,h2,h3,G1⟩:=c.ex;refine PE.imp (M7 G1 hr hg h1 h2 h3 .nil Cb ha hdb he hpl) fun σ H Q ⟨r,G,si,q⟩=>⟨r,G,si,?_⟩
 unfold bX at q;cases ez:fl r with
|ok zs=>rw[ez]at q;intro vs G' H' w' rs;have:=EQ (ms:=ms) (dvs:=[]) (dds:=[]) (F:=F) (ro:=false) w'.ok rs .nil (cY (EV q (CI _)) fun d k v G2 H2 w2 rv=>k v G2 H2 (w'.trans w2) rv);rw[show ms++y_ ([]:List D).length Md.sh=ms from QX ms]at this;exact this
|exc x=>rw[ez]at q;exact q
|stuck=>rw[ez]at q;exact q
end
def pF(f:FS):Prop:=∀r r',f r≠.nx r'
theorem K0{m:List Md}{f:FE}:pF (retF m f):=by intro r r' h;unfold retF onE at h;cases e:f r with
|ok d=>rw[e]at h;cases h
|exc x=>rw[e]at h;cases h
|stuck=>rw[e]at h;cases h
theorem Nv{s1 s2:FS}(h:pF s1):pF (seqF s1 s2):=by intro r r' e;unfold seqF at e;cases e1:s1 r with
|nx r1=>exact h r r1 e1
|rt d=>rw[e1]at e;cases e
|bk _=>rw[e1]at e;cases e
|ct _=>rw[e1]at e;cases e
|exc _ _=>rw[e1]at e;cases e
|stuck=>rw[e1]at e;cases e
theorem Nw{s1 s2:FS}(h:pF s2):pF (seqF s1 s2):=by intro r r' e;unfold seqF at e;cases e1:s1 r with
|nx r1=>rw[e1]at e;exact h r1 r' e
|rt d=>rw[e1]at e;cases e
|bk _=>rw[e1]at e;cases e
|ct _=>rw[e1]at e;cases e
|exc _ _=>rw[e1]at e;cases e
|stuck=>rw[e1]at e;cases e
section
variable{X:Cx}{g:GE}{ro:Bool}{m m1 m2 mb:List Md}{sts:List Stmt}{f:FS}
theorem Lz(h:fP X g ro mb m sts f m1)(hn:pF f)(hl:m2.length=m.length):fP X g ro mb m sts f m2:=by
 have ha:eh m2=eh m1:=by have e:m2.length=m1.length:=hl.trans h.1.symm;unfold eh;rw[Ug,Ug,e]
 refine⟨hl,eY.imp h.2 fun D σ H ⟨r,G,si,q⟩=>⟨r,G,si,?_⟩⟩;cases e:f r with
|nx r'=>exact absurd e (hn r r')
|bk r'=>rw[e]at q;exact q
|ct r'=>rw[e]at q;exact q
|rt d=>rw[e]at q;exact q
|exc x r'=>rw[e]at q;unfold dC at q ⊢;rw[ha]at q;exact q
|stuck=>rw[e]at q;exact q
end
end DL
end
namespace DL
open PySem PySem.Spec PyProof.Rows L2 PySem.W PySem.Calls PySem.Builtin PySem.Builtin.Str
end DL
section
namespace L2
open PySem PySem.Spec PyProof.Rows
theorem gP{sc:Sz}{x:Str}(h:(match sc.names.lookup x with|some .local=>true|some .cell=>true|_=>false)=true):j0 sc x:=by
 revert h;unfold j0;split <;> intro h
 .exact .inl (by assumption)
 .exact .inr (by assumption)
 .cases h
theorem dG{N P:List Str}{sc:Sz}(h:(decide (sc.kind=.function) && ! sc.isCoroutine && ! sc.isGenerator&&decide N.Nodup&&decide (N.take P.length=P)&&(P.all fun x=>match sc.names.lookup x with|some .local=>true|some .cell=>true|_=>false)&&sc.names.all fun y=>decide (y.2≠.free))=true:=by decide+kernel):FnScope N P sc:=by simp only[J_,decide_eq_true_eq,S2,RL]at h;obtain⟨⟨⟨⟨⟨⟨a,b⟩,c⟩,d⟩,e⟩,f⟩,k⟩:=h;exact⟨a,b,c,d,e,fun x hx=>gP (f x hx),k⟩
end L2
namespace DL
open PySem PySem.Spec PyProof.Rows L2
section
variable{X:Cx}{g:GE}{m mb ms:List Md}{e a b:Expr}{es:List Expr}{f fa fb:FE}{x:Str}{p pos pos':Pos}{ro:Bool}{fl:aS->Res (List D)}{k:Nat}{ps:List Str}{F:List D->Res D}
theorem bE(h:SE X g m e f):SB X g m e f:=SE.toB h
theorem iB{i:Int}{j:Nat}:SB X g m (.Constant (.int i) j pos) fun _=>.ok (.int i):=bE Cq
theorem xB(hu:X.A.units+1<R6)(ha:SB X g m a fa)(hb:SB X g m b fb)(hs:xI b:=by intro _ _;rfl):SB X g m (.Subscript a b pos) (f2 fa fb dj):=bE (g9 hu ha hb hs)
theorem dv(i:Nat)(hN:X.N.Nodup)(he:SE X g m e f)(hi:X.N[i]? = some x:=by rfl)(hx:j0 X.env.scope x:=by exact gP rfl)(hs:TY e (some (.Name x pos')) pos.line X.env=pure false:=by rfl)(hf:X.fn x=true\/X.env.scope.names.lookup x=some .local:=by first|exact .inl rfl|exact .inr rfl|assumption):SS X g ro mb m (.Assign [.Name x pos'] e pos) (aV m i f) (m.set i .sh):=Ha i hN hi hx he hs hf
theorem eB(i:Nat)(hN:X.N.Nodup)(hi:X.N[i]? = some x:=by rfl)(hx:j0 X.env.scope x:=by exact gP rfl)(hf:X.fn x=true\/X.env.scope.names.lookup x=some .local:=by first|exact .inl rfl|exact .inr rfl|assumption):SG X g m (.Name x pos) (cU i) (m.set i .sh):=Ix i hN hi hx hf
theorem cZ(c:Callee X.prog X.w X.K X.mg X.base x ps [] k false ms F)(ha:jX X g m (e::es) ms fl)(hr:Room k X.A:=by exact Room.mono ‹_› (by decide))(hg:Gl X x:=by rfl)(hdb:(x==("__debug__" : Str))=false:=by decide)(he:h_ (e::es) X.env=(false,eval e X.env)::h_ es X.env:=by rfl)(hpl:(backTo pos (h_ es X.env)).any (·.1)=false:=by rfl):SE X g m (.Call (.Name x p) (e::es) [] pos) (bX fl [] F):=pP (dds:=[]) c hr ha (by simp) hg .nil .nil hdb he hpl
end
theorem eZ{P:A_}{w:M_}{K:W.Frag}{mg:Str->Option a_}{base:Heap}{x:Str}{st:Stmt}{N ps:List Str}{k:Nat}{ro:Bool}{ms:List Md}{fs:FS}{m':List Md}(A:DefAt K mg x st)(S:FnScope N ps (aM st))(hbody:∀(f:Addr)(cdv:a_)(A:K_)(outer:List Env)(s:d_)(H:Hp)(g:GE)(E:XK),Room k (A.deeper (Sj x (aM st) s.heap.objs.size f cdv))->(A.deeper (Sj x (aM st) s.heap.objs.size f cdv)).units+1<R6 ->fP (cX dN P w K mg base N x (aM st) f cdv A outer s H E).nox g ro [] (i4 N.length ms) (aW st) fs m')(hms:ms.length=ps.length:=by rfl)(hb:∀(kV doc pm:a_)(an:Option Addr)(cdv ct:a_)(us:List a_),us.length=ps.length->Tk (W.fnOf x x (bS st) (aW st) (aM st) .none kV doc pm an cdv ct) ⟨us,[]⟩=pure (ps.zip us):=by intro _ _ _ _ _ _ us hl;rcases us with _|⟨_,_|⟨_,_|⟨_,_|⟨_,_|⟨_,_|⟨_,_⟩⟩⟩⟩⟩⟩ <;> first|(exfalso;revert hl;simp;done)|kernel_rfl):Callee P w K mg base x ps [] (k+1) ro ms fun ds=>bP ro (fs (cO N.length ds)):=Jy A S hms hb fun f cdv A outer s H g E hr=>hbody f cdv A outer s H g E hr (im hr)
end DL
end
section
namespace Rg
theorem kT{α:Type}[DecidableEq α]:∀{l m:List α},l.Nodup->(∀x∈l,x∈m)->l.length<=m.length
|[],_,_,_=>QU _
|a::l,m,hn,hs=>by
  have hn':=RX.mp hn;have h1:=kT (l:=l) (m:=m.erase a) hn'.2 fun x hx=>by
   have hxa:x≠a:=by rintro rfl;exact hn'.1 hx
   exact(VB hxa).mpr (hs x (m_ _ hx))
  have ha:a∈m:=hs a k_;rw[To ha]at h1;have:=R4 ha;simp only[Q8];omega
theorem t8{α:Type}(p:α->Bool)(l:List α):(l.filter p).length+(l.filter fun x=>! p x).length=l.length:=by induction l with
|nil=>rfl
|cons a l ih=>simp only[Rk];cases p a <;> simp <;> omega
theorem pd{α:Type}{p:α->Bool}{l:List α}(h:l.Nodup):(l.filter p).Nodup:=List.Pairwise.filter p h
structure S where
 line:List Nat
 things:List Nat
section
variable(W:Nat->List Nat)(O:Nat->Option Nat)
def fD(row things:List Nat):Nat:=(row.find? fun x=>decide (x∈things)).getD 0
def dF(s:S)(h:Nat):Nat:=fD (W h) s.things
def pt(s:S)(x:Nat):Nat:=(s.line.find? fun h=>decide (O h=some x)).getD (s.line.headD 0)
def nxt(s:S)(h:Nat):Nat:=pt O s (dF W s h)
def minus(s:S)(C:List Nat):S:=⟨s.line.filter fun h=>decide (h∉C),s.things.filter fun x=>decide (x∉C.map (dF W s))⟩
def it{α:Type}(f:α->α):Nat->α->α
|0,x=>x
|n+1,x=>it f n (f x)
theorem ke{α:Type}(f:α->α):∀(a b:Nat)(x:α),it f (a+b) x=it f b (it f a x)
|0,b,x=>by rw[Wg];rfl
|a+1,b,x=>by rw[Nat.add_right_comm];exact ke f a b (f x)
theorem m5{α:Type}(f:α->α)(n:Nat)(x:α):it f (n+1) x=f (it f n x):=ke f n 1 x
theorem wQ{α:Type}(f:α->α){p:Nat}{x:α}(h:it f p x=x):∀k,it f (p*k) x=x
|0=>rfl
|k+1=>by rw[Nat.mul_succ,ke,wQ f h k,h]
structure Ok(s:S):Prop where
 nl:s.line.Nodup
 nt:s.things.Nodup
 le:s.line.length<=s.things.length
 row:∀h∈s.line,∀x∈s.things,x∈W h
 inj:∀h k x,O h=some x->O k=some x->h=k
 own:∀h∈s.line,∀x,O h=some x->x∈s.things
structure Cyc(s:S)(C:List Nat):Prop where
 sub:∀h∈C,h∈s.line
 cl:∀h∈C,nxt W O s h∈C
 per:∀h∈C,∃k,it (nxt W O s) (k+1) h=h
variable{W O}
theorem Mp{row things:List Nat}(h:∃x∈row,x∈things):fD row things∈things:=by unfold fD;cases e:row.find? fun x=>decide (x∈things)with
|none=>obtain⟨x,h1,h2⟩:=h;have:=Q3.mp e x h1;simp[h2]at this
|some x=>have:=SR e;simpa using this
theorem yD{row things t':List Nat}(hs:∀x∈t',x∈things)(hb:fD row things∈t')(hr:fD row things∈row):fD row t'=fD row things:=by unfold fD at *;cases e:row.find? fun x=>decide (x∈things)with
|none=>rw[e]at hb hr;have:=Q3.mp e _ hr;simp only[decide_eq_true_eq]at this;exact absurd (hs _ hb) this
|some x=>
  rw[e]at hb;simp only[WH]at hb ⊢;obtain⟨hx,as,bs,rfl,h2⟩:=List.find?_eq_some_iff_append.mp e;rw[List.find?_append];have:as.find? (fun y=>decide (y∈t'))=none:=Q3.mpr fun y hy=>by have:=h2 y hy;simp only[S2,decide_eq_false_iff_not]at this;simp only[decide_eq_true_eq];exact fun z=>this (hs y z)
  rw[this];simp[QH,hb]
theorem Mq{row things:List Nat}(h:∃x∈row,x∈things):fD row things∈row:=by unfold fD;cases e:row.find? fun x=>decide (x∈things)with
|none=>obtain⟨x,h1,h2⟩:=h;have:=Q3.mp e x h1;simp[h2]at this
|some x=>exact Sd e
variable{s:S}
theorem Ok.some_thing(k:Ok W O s){h:Nat}(hh:h∈s.line):∃x∈W h,x∈s.things:=by have h1:=R4 hh;have h2:0<s.things.length:=G_ h1 k.le;obtain⟨x,hx⟩:=List.exists_mem_of_length_pos h2;exact⟨x,k.row h hh x hx,hx⟩
theorem Ok.tgt_mem(k:Ok W O s){h:Nat}(hh:h∈s.line):dF W s h∈s.things:=Mp (k.some_thing hh)
theorem Ok.tgt_row(k:Ok W O s){h:Nat}(hh:h∈s.line):dF W s h∈W h:=Mq (k.some_thing hh)
theorem CZ{x:Nat}(h:s.line≠[]):pt O s x∈s.line:=by unfold pt;cases e:s.line.find? fun h=>decide (O h=some x)with
|none=>cases q:s.line with
 |nil=>exact absurd q h
 |cons a l=>simp[List.headD]
|some y=>exact Sd e
theorem sA(k:Ok W O s){h x:Nat}(hh:h∈s.line)(ho:O h=some x):pt O s x=h:=by unfold pt;cases e:s.line.find? fun h=>decide (O h=some x)with
|none=>have:=Q3.mp e h hh;simp[ho]at this
|some y=>have:=SR e;simp only[decide_eq_true_eq]at this;exact k.inj y h x this ho
theorem wZ{h:Nat}(hl:s.line≠[]):nxt W O s h∈s.line:=CZ hl
theorem Cyc.it_mem{C:List Nat}(c:Cyc W O s C){h:Nat}(hh:h∈C):∀n,it (nxt W O s) n h∈C:=by
 intro n
 induction n generalizing h with
|zero=>exact hh
|succ n ih=>exact ih (c.cl h hh)
theorem Ku{α:Type}{f:α->α}{x y:α}{a b:Nat}(hx:it f (a+1) x=x)(hy:it f (b+1) y=y)(e:f x=f y):x=y:=by
 have h1:=wQ f hx (b+1);have h2:=wQ f hy (a+1);rw[Yc]at h2;have h3:(a+1)*(b+1)=1+(a*b+a+b):=by rw[Nat.add_mul,Nat.mul_add];omega
 rw[h3,ke]at h1 h2;have e1:it f 1 x=it f 1 y:=e;rw[e1]at h1;rw[<-h1,h2]
theorem Cyc.out{C E:List Nat}(c:Cyc W O s C)(e:Cyc W O s E){h:Nat}(hc:h∈C)(he:h∉E):nxt W O s h∉E:=by intro z;obtain⟨k,hk⟩:=c.per h hc;exact he (by rw[<-hk];exact e.it_mem z k)
theorem LD{C E:List Nat}(c:Cyc W O s C)(e:Cyc W O s E){h k:Nat}(hc:h∈C)(he:k∈E)(q:dF W s h=dF W s k):h=k:=by obtain⟨a,ha⟩:=c.per h hc;obtain⟨b,hb⟩:=e.per k he;exact Ku ha hb (by unfold nxt;rw[q])
theorem qe(k:Ok W O s){C E:List Nat}(c:Cyc W O s C)(e:Cyc W O s E){h:Nat}(he:h∈E)(hc:h∉C):dF W (minus W s C) h=dF W s h:=by have hl:=e.sub h he;refine yD (fun x hx=>(t_.mp hx).1) ?_ (k.tgt_row hl);refine t_.mpr ⟨k.tgt_mem hl,?_⟩;simp only[decide_eq_true_eq];intro z;obtain⟨h',h1,h2⟩:=B_.mp z;have:=LD c e h1 he h2;rw[this]at h1;exact hc h1
theorem tX{p:Nat->Bool}:∀{l:List Nat}{a:Nat},l.headD 0=a->l≠[]->p a=true->(l.filter p).headD 0=a
|[],_,_,h,_=>absurd rfl h
|b::l,a,e,_,hp=>by have:b=a:=e;subst this;rw[Rk,if_pos hp];rfl
theorem Ec(k:Ok W O s){C E:List Nat}(c:Cyc W O s C)(e:Cyc W O s E){h:Nat}(he:h∈E)(hc:h∉C):nxt W O (minus W s C) h=nxt W O s h:=by unfold nxt;rw[qe k c e he hc];have hl:=e.sub h he;have hne:s.line≠[]:=Rs hl;have ho:pt O s (dF W s h)∉C:=e.out c he hc;have hm:pt O s (dF W s h)∈s.line:=CZ hne;unfold pt at *;show((s.line.filter fun h=>decide (h∉C)).find? _).getD ((s.line.filter fun h=>decide (h∉C)).headD 0)=_;cases q:s.line.find? fun k=>decide (O k=some (dF W s h))with
|none=>rw[q]at ho;simp only[UZ]at ho ⊢;have:(s.line.filter fun h=>decide (h∉C)).find? (fun k=>decide (O k=some (dF W s h)))=none:=Q3.mpr fun y hy=>Q3.mp q y (t_.mp hy).1;rw[this];exact tX rfl hne (by simpa using ho)
|some y=>rw[q]at ho;simp only[WH]at ho ⊢;have hy:=SR q;simp only[decide_eq_true_eq]at hy;have hyl:=Sd q;cases q2:(s.line.filter fun h=>decide (h∉C)).find? (fun k=>decide (O k=some (dF W s h)))with
 |none=>have:=Q3.mp q2 y (t_.mpr ⟨hyl,by simpa using ho⟩);simp[hy]at this
 |some z=>have hz:=SR q2;simp only[decide_eq_true_eq]at hz;exact k.inj z y _ hz hy
theorem sw(k:Ok W O s){C:List Nat}(c:Cyc W O s C):Ok W O (minus W s C) where
 nl:=pd k.nl
 nt:=pd k.nt
 le:=by
  have h1:=t8 (fun h=>decide (h∉C)) s.line;have h2:=t8 (fun x=>decide (x∉C.map (dF W s))) s.things;have h3:(s.things.filter fun x=>! decide (x∉C.map (dF W s))).length<=((s.line.filter fun h=>! decide (h∉C)).map (dF W s)).length:=by refine kT (pd k.nt) fun x hx=>?_;obtain⟨_,hx⟩:=t_.mp hx;simp only[decide_not,Bool.not_not,decide_eq_true_eq]at hx;obtain⟨h,h1,h2⟩:=B_.mp hx;exact B_.mpr ⟨h,t_.mpr ⟨c.sub h h1,by simpa using h1⟩,h2⟩
  rw[p_]at h3;have:=k.le;show(s.line.filter _).length<=(s.things.filter _).length;omega
 row:=fun h hh x hx=>k.row h (t_.mp hh).1 x (t_.mp hx).1
 inj:=k.inj
 own:=fun h hh x hx=>by obtain⟨h1,h2⟩:=t_.mp hh;simp only[decide_eq_true_eq]at h2;refine t_.mpr ⟨k.own h h1 x hx,?_⟩;simp only[decide_eq_true_eq];intro z;obtain⟨b,b1,b2⟩:=B_.mp z;have:=c.cl b b1;unfold nxt at this;rw[b2,sA k h1 hx]at this;exact h2 this
def less(E C:List Nat):List Nat:=E.filter fun h=>decide (h∉C)
theorem jJ{E C:List Nat}{h:Nat}:h∈less E C↔h∈E/\h∉C:=by simp[less,t_]
theorem En(k:Ok W O s){C E:List Nat}(c:Cyc W O s C)(e:Cyc W O s E):Cyc W O (minus W s C) (less E C):=by
 have stay:∀n h,h∈less E C->it (nxt W O (minus W s C)) n h=it (nxt W O s) n h:=by
  intro n
  induction n with
 |zero=>intro h _;rfl
 |succ n ih=>intro h hh;obtain⟨h1,h2⟩:=jJ.mp hh;show it _ n (nxt W O (minus W s C) h)=it _ n (nxt W O s h);rw[Ec k c e h1 h2];exact ih _ (jJ.mpr ⟨e.cl h h1,e.out c h1 h2⟩)
 refine⟨fun h hh=>?_,fun h hh=>?_,fun h hh=>?_⟩
 .obtain⟨h1,h2⟩:=jJ.mp hh;exact t_.mpr ⟨e.sub h h1,by simpa using h2⟩
 .obtain⟨h1,h2⟩:=jJ.mp hh;rw[Ec k c e h1 h2];exact jJ.mpr ⟨e.cl h h1,e.out c h1 h2⟩
 .obtain⟨h1,h2⟩:=jJ.mp hh;obtain⟨n,hn⟩:=e.per h h1;exact⟨n,by rw[stay _ _ hh];exact hn⟩
theorem ki{p q:Nat->Bool}{l:List Nat}(h:∀x∈l,p x=q x):l.filter p=l.filter q:=by induction l with
|nil=>rfl
|cons a l ih=>rw[Rk,Rk,h a k_,ih fun x hx=>h x (m_ _ hx)]
theorem FX(k:Ok W O s){C E:List Nat}(c:Cyc W O s C)(e:Cyc W O s E):minus W (minus W s C) (less E C)=minus W s (C++E):=by
 have h1:(minus W (minus W s C) (less E C)).line=(minus W s (C++E)).line:=by show((s.line.filter _).filter _)=s.line.filter _;rw[UH];refine ki fun x _=>?_;by_cases hc:x∈C <;> by_cases he:x∈E <;> simp[jJ,hc,he]
 have h2:(minus W (minus W s C) (less E C)).things=(minus W s (C++E)).things:=by
  show((s.things.filter _).filter _)=s.things.filter _;rw[UH];refine ki fun x _=>?_;have key:x∈(less E C).map (dF W (minus W s C))↔∃h,h∈E/\h∉C/\dF W s h=x:=by
   rw[B_];constructor
   .rintro⟨h,hh,q⟩
    obtain⟨a,b⟩:=jJ.mp hh;exact⟨h,a,b,by rw[<-q,qe k c e a b]⟩
   .rintro⟨h,a,b,q⟩
    exact⟨h,jJ.mpr ⟨a,b⟩,by rw[qe k c e a b];exact q⟩
  have key2:x∈(C++E).map (dF W s)↔x∈C.map (dF W s)\/x∈(less E C).map (dF W (minus W s C)):=by
   rw[key,Q0,QW];constructor
   .rintro(z|z)
    .exact .inl z
    .obtain⟨h,a,b⟩:=B_.mp z;by_cases hc:h∈C
     .exact .inl (B_.mpr ⟨h,hc,b⟩)
     .exact .inr ⟨h,a,hc,b⟩
   .rintro(z|⟨h,a,_,b⟩)
    .exact .inl z
    .exact .inr (B_.mpr ⟨h,a,b⟩)
  rw[P_];simp only[J_,decide_eq_true_eq];rw[key2];constructor
  .rintro⟨a,b⟩ (z|z)
   .exact b z
   .exact a z
  .intro z;exact⟨fun q=>z (.inr q),fun q=>z (.inl q)⟩
 cases e1:minus W (minus W s C) (less E C);cases e2:minus W s (C++E);rw[e1,e2]at h1 h2;simp only at h1 h2;rw[h1,h2]
theorem O2(k:Ok W O s){C E:List Nat}(c:Cyc W O s C)(e:Cyc W O s E):minus W (minus W s C) (less E C)=minus W (minus W s E) (less C E):=by
 rw[FX k c e,FX k e c];unfold minus;congr 1
 .exact ki fun x _=>by rw[P_];simp[and_comm]
 .refine ki fun x _=>?_;rw[P_];simp only[decide_eq_true_eq,Q0,QW];constructor <;> intro z q <;> exact z q.symm
inductive TTC(W:Nat->List Nat)(O:Nat->Option Nat)(a:Nat->Nat):S->Prop where
 |nil {s:S}:s.line=[]->TTC W O a s
 |step {s:S} (C:List Nat):Cyc W O s C->(∀h∈C,a h=dF W s h)->TTC W O a (minus W s C)->TTC W O a s
theorem xH{a:Nat->Nat}(t:TTC W O a s):∀(k:Ok W O s){E:List Nat},Cyc W O s E->TTC W O a (minus W s E)/\∀h∈E,a h=dF W s h:=by induction t with
|nil h0=>intro k E e;refine⟨.nil (by unfold minus;rw[h0];rfl),fun h hh=>?_⟩;have:=e.sub h hh;rw[h0]at this;cases this
|step C c ha t ih=>
  intro k E e;obtain⟨h1,h2⟩:=ih (sw k c) (En k c e);refine⟨.step (less C E) (En k e c) (fun h hh=>?_) (by rw[<-O2 k c e];exact h1),fun h hh=>?_⟩
  .obtain⟨z1,z2⟩:=jJ.mp hh;rw[qe k e c z1 z2];exact ha h z1
  .by_cases hc:h∈C
   .exact ha h hc
   .rw[h2 h (jJ.mpr ⟨hh,hc⟩),qe k c e hh hc]
end
end Rg
end
section
namespace Rg
section
variable{W:Nat->List Nat}{O:Nat->Option Nat}{s:S}{a:Nat->Nat}
theorem CO{f:Nat->Nat}{l:List Nat}(hcl:∀h∈l,f h∈l){x:Nat}(hx:x∈l):∃i j,i<j/\j<=l.length/\it f i x=it f j x:=by
 have mem:∀i,it f i x∈l:=by
  intro i
  induction i with
 |zero=>exact hx
 |succ i ih=>rw[m5];exact hcl _ ih
 by_cases hn:((C_ (l.length+1)).map fun i=>it f i x).Nodup
 .have:=kT hn (m:=l) fun y hy=>by obtain⟨i,_,rfl⟩:=B_.mp hy;exact mem i
  simp at this;omega
 .apply Th;intro h;apply hn;rw[List.nodup_iff_pairwise_ne]at *;rw[List.pairwise_map];refine X3 (R:=fun i j=>i<j) (fun hi hj hij e=>?_) List.pairwise_lt_range;exact h ⟨_,_,hij,by have:=QJ.mp hj;omega,e⟩
theorem BM{P:Nat->Prop}:(∃n,P n)->∃n,P n/\∀k,k<n->¬ P k:=by
 rintro⟨n,hn⟩
 induction n using Nat.strongRecOn with
|_ n ih=>
  by_cases h:∃k,k<n/\P k
  .obtain⟨k,h1,h2⟩:=h;exact ih k h1 h2
  .exact⟨n,hn,fun k hk hp=>h ⟨k,hk,hp⟩⟩
theorem Dh{α:Type}(f:α->α)(a b:Nat)(x:α):it f a (it f b x)=it f b (it f a x):=by rw[<-ke,<-ke,Wb]
theorem OY{f:Nat->Nat}{l:List Nat}(hcl:∀h∈l,f h∈l)(hne:l≠[]):∃z p,z∈l/\0<p/\p<=l.length/\it f p z=z/\∀i,0<i->i<p->z<it f i z:=by
 have mem:∀x∈l,∀i,it f i x∈l:=by
  intro x hx i
  induction i with
 |zero=>exact hx
 |succ i ih=>rw[m5];exact hcl _ ih
 obtain⟨x,hx⟩:=Se l hne;obtain⟨i,j,hij,_,e⟩:=CO hcl hx;obtain⟨z,⟨hz,k,hk⟩,hmin⟩:=BM (P:=fun z=>z∈l/\∃k,it f (k+1) z=z) ⟨it f i x,mem x hx i,j-i-1,by rw[<-ke,show i+(j-i-1+1)=j by omega];exact e.symm⟩;obtain⟨p,hp,hpm⟩:=BM (P:=fun p=>it f (p+1) z=z) ⟨k,hk⟩;have ge:∀i,z<=it f i z:=fun i=>by have:=hmin (it f i z);apply Th;intro h;exact this (by omega) ⟨mem z hz i,p,by rw[Dh,hp]⟩
 have ne:∀i,0<i->i<p+1->it f i z≠z:=fun i h1 h2 q=>hpm (i-1) (by omega) (by rw[show i-1+1=i by omega];exact q);refine⟨z,p+1,hz,Nat.succ_pos _,?_,hp,fun i h1 h2=>by have:=ge i;have:=ne i h1 h2;omega⟩;obtain⟨i,j,hij,hj,e⟩:=CO hcl hz;apply Th;intro h;have:it f (p+1-j+i) z=z:=by
  have h1:it f (p+1-j) (it f j z)=z:=by rw[<-ke,show j+(p+1-j)=p+1 by omega];exact hp
  rw[<-e,<-ke]at h1;rw[Wb];exact h1
 exact ne _ (by omega) (by omega) this
def jD(f:Nat->Nat)(n first:Nat):Nat->List Nat->Nat->Option (List Nat)
|0,_,_=>none
|k+1,ring,hand=>if first<hand/\ring.length<n then jD f n first k (ring++[hand]) (f hand)else if hand=first then some ring else none
def lK(f:Nat->Nat)(n first:Nat):Option (List Nat):=jD f n first (n+1) [first] (f first)
def iY(f:Nat->Nat)(x n:Nat):List Nat:=(C_ n).map fun i=>it f i x
theorem Et(f:Nat->Nat)(x n:Nat):iY f x (n+1)=iY f x n++[it f n x]:=by unfold iY;rw[W0,Q0];rfl
theorem DQ(f:Nat->Nat)(x n:Nat):(iY f x n).length=n:=by simp[iY]
theorem OE{f:Nat->Nat}{n first:Nat}:∀{k i:Nat}{r:List Nat},jD f n first k (iY f first i) (it f i first)=some r->∃j,i<=j/\r=iY f first j/\it f j first=first:=by
 intro k
 induction k with
|zero=>intro i r h;cases h
|succ k ih=>
  intro i r h;unfold jD at h;split at h
  .rw[<-Et,<-m5 f]at h;obtain⟨j,h1,h2⟩:=ih h;exact⟨j,by omega,h2⟩
  .split at h
   .rename_i e;cases h;exact⟨i,r_ _,rfl,e⟩
   .cases h
theorem FN{f:Nat->Nat}{n first:Nat}{r:List Nat}(h:lK f n first=some r):∃j,0<j/\r=iY f first j/\it f j first=first:=by
 have h':jD f n first (n+1) (iY f first 1) (it f 1 first)=some r:=h
 obtain⟨j,h1,h2⟩:=OE h';exact⟨j,by omega,h2⟩
theorem Pg{f:Nat->Nat}{n z p:Nat}(hp:p<=n)(he:it f p z=z)(hg:∀i,0<i->i<p->z<it f i z):∀{k i:Nat},0<i->i<=p->p<k+i->jD f n z k (iY f z i) (it f i z)=some (iY f z p):=by
 intro k
 induction k with
|zero=>intro i h1 h2 h3;omega
|succ k ih=>
  intro i h1 h2 h3;unfold jD;by_cases hi:i=p
  .subst hi;rw[if_neg (by rw[he];omega),if_pos he]
  .rw[if_pos ⟨hg i h1 (by omega),by rw[DQ];omega⟩,<-Et,<-m5 f];exact ih (by omega) (by omega) (by omega)
theorem Px{f:Nat->Nat}{n z p:Nat}(h0:0<p)(hp:p<=n)(he:it f p z=z)(hg:∀i,0<i->i<p->z<it f i z):lK f n z=some (iY f z p):=by show jD f n z (n+1) (iY f z 1) (it f 1 z)=_;exact Pg hp he hg (by omega) h0 (by omega)
def iU(W:Nat->List Nat)(O:Nat->Option Nat)(s:S):List (List Nat):=s.line.filterMap fun h=>lK (nxt W O s) s.line.length h
theorem DD{C:List Nat}(hC:∀h,h∈C->∃r∈iU W O s,h∈r)(hC':∀r∈iU W O s,∀h∈r,h∈C):Cyc W O s C:=by
 have one:∀r∈iU W O s,∃x j,x∈s.line/\0<j/\r=iY (nxt W O s) x j/\it (nxt W O s) j x=x:=fun r hr=>by obtain⟨x,h1,h2⟩:=Rq.mp hr;obtain⟨j,h3,h4,h5⟩:=FN h2;exact⟨x,j,h1,h3,h4,h5⟩
 have hm:∀x∈s.line,∀i,it (nxt W O s) i x∈s.line:=by
  intro x hx i
  induction i with
 |zero=>exact hx
 |succ i ih=>rw[m5];exact wZ (Rs hx)
 refine⟨fun h hh=>?_,fun h hh=>?_,fun h hh=>?_⟩
 .obtain⟨r,hr,h1⟩:=hC h hh;obtain⟨x,j,hx,hj,rfl,he⟩:=one r hr;obtain⟨i,_,rfl⟩:=B_.mp h1;exact hm x hx i
 .obtain⟨r,hr,h1⟩:=hC h hh;obtain⟨x,j,hx,hj,rfl,he⟩:=one r hr;obtain⟨i,hi,rfl⟩:=B_.mp h1;have hi:=QJ.mp hi;refine hC' _ hr _ ?_;rw[<-m5 (nxt W O s)];by_cases q:i+1=j
  .rw[q,he];exact B_.mpr ⟨0,QJ.mpr hj,rfl⟩
  .exact B_.mpr ⟨i+1,QJ.mpr (by omega),rfl⟩
 .obtain⟨r,hr,h1⟩:=hC h hh;obtain⟨x,j,hx,hj,rfl,he⟩:=one r hr;obtain⟨i,hi,rfl⟩:=B_.mp h1;exact⟨j-1,by rw[show j-1+1=j by omega,Dh,he]⟩
theorem Ow(hne:s.line≠[]):iU W O s≠[]:=by obtain⟨z,p,h1,h2,h3,h4,h5⟩:=OY (f:=nxt W O s) (l:=s.line) (fun h hh=>wZ hne) hne;exact Rs (Rq.mpr ⟨z,h1,Px h2 h3 h4 h5⟩)
def fY(W:Nat->List Nat)(O:Nat->Option Nat)(s:S):List Nat:=(iU W O s).flatten
theorem EI:Cyc W O s (fY W O s):=DD (fun h hh=>Sy.mp hh) (fun r hr h hh=>Sy.mpr ⟨r,hr,hh⟩)
theorem DC{f:Nat->Nat}{n x:Nat}{r:List Nat}(h:lK f n x=some r):r≠[]:=by obtain⟨j,h1,rfl,_⟩:=FN h;intro z;have:=DQ f x j;rw[z]at this;simp at this;omega
theorem Da(hne:s.line≠[]):fY W O s≠[]:=by have h:=Ow (W:=W) (O:=O) hne;cases q:iU W O s with
|nil=>exact absurd q h
|cons r t=>
  have hr:r∈iU W O s:=by rw[q];exact k_
  obtain⟨x,_,h2⟩:=Rq.mp hr;unfold fY;rw[q,Rm];intro z;exact DC h2 (List.append_eq_nil_iff.mp z).1
theorem Ny(hne:s.line≠[]):(minus W s (fY W O s)).line.length<s.line.length:=by have h:=Da (W:=W) (O:=O) hne;obtain⟨x,hx⟩:=Se _ h;have hx2:=(EI (W:=W) (O:=O) (s:=s)).sub x hx;have:=t8 (fun h=>decide (h∉fY W O s)) s.line;have h3:0<(s.line.filter fun h=>! decide (h∉fY W O s)).length:=R4 (t_.mpr ⟨hx2,by simpa using hx⟩);show(s.line.filter _).length<_;omega
def nQ(W:Nat->List Nat)(O:Nat->Option Nat):Nat->S->Nat->Nat
|0,_,_=>0
|n+1,s,h=>if h∈fY W O s then dF W s h else nQ W O n (minus W s (fY W O s)) h
theorem O5{b:Nat->Nat}(t:TTC W O a s):(∀h∈s.line,b h=a h)->TTC W O b s:=by induction t with
|nil h0=>exact fun _=>.nil h0
|@step s C c ha t ih=>exact fun e=>.step C c (fun h hh=>by rw[e h (c.sub h hh)];exact ha h hh) (ih fun h hh=>e h (t_.mp hh).1)
theorem IE:∀(n:Nat)(s:S),s.line.length<n->TTC W O (nQ W O n s) s:=by
 intro n
 induction n with
|zero=>intro s h;omega
|succ n ih=>
  intro s h;by_cases hl:s.line=[]
  .exact .nil hl
  .have hlt:=Ny (W:=W) (O:=O) hl;refine .step (fY W O s) EI (fun h hh=>?_) (O5 (ih _ (by omega)) fun h hh=>?_)
   .show(if h∈fY W O s then _ else _)=_;rw[if_pos hh]
   .have:=(t_.mp hh).2;simp only[decide_eq_true_eq]at this;show(if h∈fY W O s then _ else _)=_;rw[if_neg this]
end
end Rg
end
section
namespace Rg
section
variable{W W':Nat->List Nat}{O:Nat->Option Nat}{s:S}{a b:Nat->Nat}
theorem EC{l:List Nat}{h:Nat}(hn:l.Nodup):l.erase h=l.filter fun x=>decide (x≠h):=by induction l with
|nil=>rfl
|cons b l ih=>
  have hn':=RX.mp hn;by_cases q:b=h
  .subst q;rw[List.erase_cons_head,Rk,if_neg (by simp)];symm;rw[List.filter_eq_self];intro x hx;have:x≠b:=by rintro rfl;exact hn'.1 hx
   simpa using this
  .rw[List.erase_cons_tail (by simpa using q),Rk,if_pos (by simpa using q),ih hn'.2]
end
end Rg
end
section
namespace Rg
end Rg
end
section
namespace Rg
section
variable{W:Nat->List Nat}{O:Nat->Option Nat}{s:S}{a b:Nat->Nat}
theorem Cyc.pre{C:List Nat}(c:Cyc W O s C){h:Nat}(hh:h∈C):∃l∈C,nxt W O s l=h:=by obtain⟨k,e⟩:=c.per h hh;rw[m5]at e;exact⟨_,c.it_mem hh k,e⟩
end
end Rg
end
section
namespace Rg
section
variable{W:Nat->List Nat}{O:Nat->Option Nat}{s:S}{a:Nat->Nat}
structure Chain(W:Nat->List Nat)(O:Nat->Option Nat)(s:S)(A:List Nat):Prop where
 nd:A.Nodup
 sub:∀h∈A,h∈s.line
 hd:∀h l,A=h::l->s.line.headD 0=h
 nx:∀(i:Nat) h l,A[i]? = some h->A[i+1]? = some l->O l=some (dF W s h)
theorem Ij:Chain W O s []:=⟨Xo,fun _ h=>(nomatch h),fun _ _ h=>(nomatch h),fun i h l e=>by simp at e⟩
theorem Ik(hne:s.line≠[]):Chain W O s [s.line.headD 0]:=by refine⟨by simp,fun h hh=>?_,fun h l e=>by cases e;rfl,fun i h l e1 e2=>by simp at e2⟩;have:=u_.mp hh;subst this;cases e:s.line with
|nil=>exact absurd e hne
|cons b t=>exact k_
variable{A:List Nat}
theorem Chain.at(c:Chain W O s A){i h:Nat}(e:A[i]? = some h):h∈A:=Q1 e
theorem Chain.nxt(c:Chain W O s A)(k:Ok W O s){i h l:Nat}(e1:A[i]? = some h)(e2:A[i+1]? = some l):Rg.nxt W O s h=l:=sA k (c.sub l (c.at e2)) (c.nx i h l e1 e2)
theorem Chain.walk(c:Chain W O s A)(k:Ok W O s):∀(t:Nat){j h l:Nat},A[j]? = some h->A[j+t]? = some l->it (Rg.nxt W O s) t h=l
|0,j,h,l,e1,e2=>by rw[Yi,e1]at e2;exact z_ e2
|t+1,j,h,l,e1,e2=>by have hlt:j+(t+1)<A.length:=(c_.mp e2).1;have e3:A[j+1]? = some A[j+1]:=g_ (by omega);show it _ t (Rg.nxt W O s h)=l;rw[c.nxt k e1 e3];exact c.walk k t e3 (by rw[show j+1+t=j+(t+1)by omega];exact e2)
theorem qg{i h:Nat}(hh:h∈A.drop i):∃j,i<=j/\A[j]? = some h:=by obtain⟨j,hj⟩:=Sh hh;rw[Sb]at hj;exact⟨i+j,by omega,hj⟩
theorem sY{i j h:Nat}(hj:i<=j)(e:A[j]? = some h):h∈A.drop i:=by refine Q1 (i:=j-i) ?_;rw[Sb,show i+(j-i)=j by omega];exact e
theorem Chain.cyc(c:Chain W O s A)(k:Ok W O s){i z f:Nat}(hz:A[A.length-1]? = some z)(hf:A[i]? = some f)(e:Rg.nxt W O s z=f):Cyc W O s (A.drop i):=by
 have hil:i<A.length:=(c_.mp hf).1;refine⟨fun h hh=>c.sub h (Uc hh),fun h hh=>?_,fun h hh=>?_⟩
 .obtain⟨j,h1,h2⟩:=qg hh;have hj:j<A.length:=(c_.mp h2).1;by_cases q:j+1<A.length
  .have e3:A[j+1]? = some A[j+1]:=g_ q;rw[c.nxt k h2 e3];exact sY (by omega) e3
  .have:j=A.length-1:=by omega
   subst this;rw[hz]at h2;cases h2;rw[e];exact sY (r_ _) hf
 .obtain⟨j,h1,h2⟩:=qg hh;have hj:j<A.length:=(c_.mp h2).1;refine⟨A.length-i-1,?_⟩;have w1:=c.walk k (A.length-1-j) h2 (l:=z) (by rw[show j+(A.length-1-j)=A.length-1 by omega];exact hz);have w2:=c.walk k (j-i) hf (l:=h) (by rw[show i+(j-i)=j by omega];exact h2);rw[show A.length-i-1+1=(A.length-1-j)+((j-i)+1)by omega,ke,w1];show it _ (j-i) (Rg.nxt W O s z)=h;rw[e];exact w2
theorem Chain.apart(c:Chain W O s A){i j h l:Nat}(e1:A[i]? = some h)(e2:A[j]? = some l)(e:h=l):i=j:=by
 subst e;have h1:=(c_.mp e1)
 have h2:=(c_.mp e2)
 obtain⟨b1,q1⟩:=h1;obtain⟨b2,q2⟩:=h2;have:=List.pairwise_iff_getElem.mp c.nd;rcases Nat.lt_trichotomy i j with z|z|z
 .exact absurd (q1.trans q2.symm) (this i j b1 b2 z)
 .exact z
 .exact absurd (q2.trans q1.symm) (this j i b2 b1 z)
theorem Chain.take(c:Chain W O s A){s':S}(i:Nat)(hl:∀(j:Nat) h,j<i->A[j]? = some h->h∈s'.line)(hh:∀h l,A=h::l->0<i->s'.line.headD 0=h)(ht:∀(j:Nat) h l,j+1<i->A[j]? = some h->A[j+1]? = some l->dF W s' h=dF W s h):Chain W O s' (A.take i):=by
 refine⟨c.nd.sublist (UL _ _),fun h hm=>?_,fun h l e=>?_,fun j h l e1 e2=>?_⟩
 .obtain⟨j,hj⟩:=Sh hm;rw[RM]at hj;split at hj
  .rename_i q;exact hl j h q hj
  .cases hj
 .cases i with
 |zero=>cases e
 |succ i=>cases A with
  |nil=>cases e
  |cons b t=>cases e;exact hh _ _ rfl (by omega)
 .rw[RM]at e1 e2;split at e1
  .split at e2
   .rename_i q1 q2;rw[ht j h l q2 e1 e2];exact c.nx j h l e1 e2
   .cases e2
  .cases e1
theorem BY(t:TTC W O a s)(k:Ok W O s)(c:Chain W O s A){i z f:Nat}(hz:A[A.length-1]? = some z)(hf:A[i]? = some f)(hO:O f=some (dF W s z)):Ok W O (minus W s (A.drop i))/\TTC W O a (minus W s (A.drop i))/\Chain W O (minus W s (A.drop i)) (A.take i)/\(∀h∈A.drop i,a h=dF W s h)/\Cyc W O s (A.drop i):=by
 have cy:=c.cyc k hz hf (sA k (c.sub f (c.at hf)) hO);obtain⟨t1,t2⟩:=xH t k cy;have nin:∀(j:Nat) h,j<i->A[j]? = some h->h∉A.drop i:=fun j h hj e q=>by obtain⟨j',h1,h2⟩:=qg q;have:=c.apart e h2 rfl;omega
 refine⟨sw k cy,t1,c.take i (fun j h hj e=>t_.mpr ⟨c.sub h (c.at e),by simpa using nin j h hj e⟩) (fun h l e hi=>?_) (fun j h l hj e1 e2=>?_),t2,cy⟩
 .have e0:A[0]? = some h:=by rw[e];rfl
  exact tX (c.hd h l e) (Rs (c.sub h (c.at e0))) (by simpa using nin 0 h hi e0)
 .have hh:=c.sub h (c.at e1);refine yD (fun x hx=>(t_.mp hx).1) (t_.mpr ⟨k.tgt_mem hh,?_⟩) (k.tgt_row hh);simp only[decide_eq_true_eq];intro q;obtain⟨u,u1,u2⟩:=B_.mp q;have:Rg.nxt W O s u=l:=sA k (c.sub l (c.at e2)) (by rw[c.nx j h l e1 e2];exact congrArg some u2.symm);exact nin (j+1) l hj e2 (this▸cy.cl u u1)
theorem ID(t:TTC W O a s)(k:Ok W O s)(c:Chain W O s A){z:Nat}(hz:A[A.length-1]? = some z)(hO:∀h∈s.line,O h≠some (dF W s z)):Ok W O (minus W s [z])/\TTC W O a (minus W s [z])/\Chain W O (minus W s [z]) (A.take (A.length-1))/\a z=dF W s z:=by
 have hzl:=c.sub z (c.at hz);have hlen:A.length-1<A.length:=(c_.mp hz).1;have hne:s.line≠[]:=Rs hzl;have hfind:s.line.find? (fun h=>decide (O h=some (dF W s z)))=none:=Q3.mpr fun h hh=>by simpa using hO h hh
 have hnz:Rg.nxt W O s z=s.line.headD 0:=by unfold Rg.nxt pt;rw[hfind];rfl
 have h0:A[0]? = some (s.line.headD 0):=by cases e:A with
 |nil=>rw[e]at hlen;simp at hlen
 |cons b r=>rw[c.hd b r e];rfl
 have cy:Cyc W O s A:=by have:=c.cyc k hz h0 hnz;rwa[UI]at this
 obtain⟨t1,t2⟩:=xH t k cy;have hza:=t2 z (c.at hz);have k':Ok W O (minus W s [z]):=by
  refine⟨pd k.nl,pd k.nt,?_,fun h hh x hx=>k.row h (t_.mp hh).1 x (t_.mp hx).1,k.inj,fun h hh x hx=>?_⟩
  .have e1:(minus W s [z]).line=s.line.erase z:=by rw[EC k.nl];exact ki fun x _=>by simp
   have e2:(minus W s [z]).things=s.things.erase (dF W s z):=by rw[EC k.nt];exact ki fun x _=>by simp
   rw[e1,e2,To hzl,To (k.tgt_mem hzl)];have:=k.le;omega
  .have hl:=(t_.mp hh).1;refine t_.mpr ⟨k.own h hl x hx,?_⟩;simp only[QE,R3,u_,decide_eq_true_eq]
   rintro rfl
   exact hO h hl hx
 have neq:∀(j:Nat) h,j<A.length-1->A[j]? = some h->h≠z:=fun j h hj e q=>by have:=c.apart e hz q;omega
 have tg:∀(j:Nat) h,j<A.length-1->A[j]? = some h->dF W (minus W s [z]) h=dF W s h:=fun j h hj e1=>by have hh:=c.sub h (c.at e1);have e2:A[j+1]? = some A[j+1]:=g_ (by omega);refine yD (fun x hx=>(t_.mp hx).1) (t_.mpr ⟨k.tgt_mem hh,?_⟩) (k.tgt_row hh);simp only[QE,R3,u_,decide_eq_true_eq];intro q;exact hO _ (c.sub _ (c.at e2)) (by rw[c.nx j h _ e1 e2];exact congrArg some q)
 have c':Chain W O (minus W s [z]) (A.take (A.length-1)):=by
  refine c.take _ (fun j h hj e=>t_.mpr ⟨c.sub h (c.at e),by simpa using neq j h hj e⟩) (fun h l e hi=>?_) (fun j h l hj e1 e2=>tg j h (by omega) e1);have e0:A[0]? = some h:=by rw[e];rfl
  exact tX (c.hd h l e) hne (by simpa using neq 0 h hi e0)
 refine⟨k',?_,c',hza⟩;by_cases q:A.length-1=0
 .have e:A=[z]:=by cases e:A with
  |nil=>rw[e]at hlen;simp at hlen
  |cons b r=>rw[e]at q hz;simp at q;subst q;simp at hz;rw[hz]
  rw[e]at t1;exact t1
 .have tl:(A.take (A.length-1)).length=A.length-1:=by rw[QM];omega
  have ly:(A.take (A.length-1))[(A.take (A.length-1)).length-1]? = some A[A.length-2]:=by rw[tl,RM,if_pos (by omega),g_ (by omega)];congr 1
  have e2:A[A.length-2]? = some A[A.length-2]:=g_ (by omega);have oz:O z=some (dF W s A[A.length-2]):=c.nx (A.length-2) _ z e2 (by rw[show A.length-2+1=A.length-1 by omega];exact hz);have l0:(A.take (A.length-1))[0]? = some (s.line.headD 0):=by rw[RM,if_pos (by omega)];exact h0
  have hd':(minus W s [z]).line.headD 0=s.line.headD 0:=tX rfl hne (by simpa using neq 0 _ (by omega) h0);have fr:Rg.nxt W O (minus W s [z]) A[A.length-2]=s.line.headD 0:=by
   unfold Rg.nxt pt;have:(minus W s [z]).line.find? (fun h=>decide (O h=some (dF W (minus W s [z]) A[A.length-2])))=none:=Q3.mpr fun h hh=>by rw[tg (A.length-2) _ (by omega) e2];have hm:=t_.mp hh;simp only[decide_eq_true_eq];intro e;have:=k.inj h z _ e oz;subst this;simpa using hm.2
   rw[this];exact hd'
  have cy':=c'.cyc k' ly l0 fr;rw[UI]at cy';have sub':∀h,h∈A.take (A.length-1)->∃j,j<A.length-1/\A[j]? = some h:=fun h hm=>by
   obtain⟨j,hj⟩:=Sh hm;rw[RM]at hj;split at hj
   .rename_i q2;exact⟨j,q2,hj⟩
   .cases hj
  have mA:∀h,h∈A↔h∈A.take (A.length-1)\/h=z:=fun h=>by
   constructor
   .intro hm;obtain⟨j,hj⟩:=Sh hm;have hjl:=(c_.mp hj).1;by_cases z1:j<A.length-1
    .left;refine Q1 (i:=j) ?_;rw[RM,if_pos z1];exact hj
    .have:j=A.length-1:=by omega
     subst this;rw[hz]at hj;cases hj;exact .inr rfl
   .rintro(hm|rfl)
    .exact VC hm
    .exact c.at hz
  refine .step (A.take (A.length-1)) cy' (fun h hm=>?_) ?_
  .obtain⟨j,j1,j2⟩:=sub' h hm;rw[tg j h j1 j2];exact t2 h (c.at j2)
  .have e:minus W (minus W s [z]) (A.take (A.length-1))=minus W s A:=by
    unfold minus;simp only[S.mk.injEq,UH];refine⟨ki fun h _=>?_,ki fun x _=>?_⟩
    .rw[P_];simp only[J_,decide_eq_true_eq,u_];rw[mA h];constructor
     .rintro⟨q1,q2⟩ (q3|q3)
      .exact q1 q3
      .exact q2 q3
     .exact fun q1=>⟨fun q2=>q1 (.inl q2),fun q2=>q1 (.inr q2)⟩
    .rw[P_];simp only[J_,decide_eq_true_eq,QE,R3,u_];constructor
     .rintro⟨q1,q2⟩ q3
      obtain⟨h,h1,h2⟩:=B_.mp q3;rcases(mA h).mp h1 with h3|h3
      .obtain⟨j,j1,j2⟩:=sub' h h3;exact q1 (B_.mpr ⟨h,h3,by have:=tg j h j1 j2;unfold minus at this;simp only[QE,R3,u_]at this;rw[this];exact h2⟩)
      .subst h3;exact q2 h2.symm
     .intro q1;refine⟨fun q2=>?_,fun q2=>q1 (B_.mpr ⟨z,c.at hz,q2.symm⟩)⟩;obtain⟨h,h1,h2⟩:=B_.mp q2;obtain⟨j,j1,j2⟩:=sub' h h1;have:=tg j h j1 j2;unfold minus at this;simp only[QE,R3,u_]at this;rw[this]at h2;exact q1 (B_.mpr ⟨h,c.at j2,h2⟩)
   rw[e];exact t1
theorem Ic(c:Chain W O s A){z l:Nat}(hz:A[A.length-1]? = some z)(hl:l∈s.line)(hn:l∉A)(hO:O l=some (dF W s z)):Chain W O s (A++[l]):=by
 have hlen:A.length-1<A.length:=(c_.mp hz).1;refine⟨RU.mpr ⟨c.nd,by simp,fun x hx y hy=>by rw[u_.mp hy];rintro rfl;exact hn hx⟩,fun h hh=>?_,fun h r e=>?_,fun i h m e1 e2=>?_⟩
 .rcases QW.mp hh with q|q
  .exact c.sub h q
  .rw[u_.mp q];exact hl
 .cases eA:A with
 |nil=>rw[eA]at hlen;simp at hlen
 |cons b t=>rw[eA]at e;cases e;exact c.hd _ _ eA
 .by_cases q:i+1<A.length
  .rw[I_ (by omega)]at e1 e2;exact c.nx i h m e1 e2
  .have hi:i+1<(A++[l]).length:=(c_.mp e2).1;simp at hi;have:i=A.length-1:=by omega
   subst this;rw[I_ (by omega),hz]at e1;cases e1;rw[Q6 (by omega),show A.length-1+1-A.length=0 by omega]at e2;cases e2;exact hO
end
end Rg
end
section
namespace Rg
end Rg
end
section
namespace Rg
end Rg
end
section
namespace Rg
section
variable{W:Nat->List Nat}{d:Nat->Nat}
def lk(W:Nat->List Nat)(h x y:Nat):Prop:=(W h).idxOf x<(W h).idxOf y
instance (W:Nat->List Nat) (h x y:Nat):Decidable (lk W h x y):=by unfold lk;infer_instance
def env(W:Nat->List Nat)(d:Nat->Nat)(h:Nat)(others:List Nat):List Nat:=others.filter fun o=>decide (lk W h (d o) (d h))
end
end Rg
end
namespace Law
open PySem PySem.Spec PyProof.Rows L2 DL
abbrev gv(i:Nat):DL.FE:=fun r=>DL.gS r i
abbrev ci(i:Int):DL.FE:=fun _=>.ok (.int i)
abbrev q0:List DL.Md:=[.bw,.bw]
abbrev dB:List DL.Md:=[.bw,.bw,.sh]
abbrev dU:List DL.Md:=[.bw,.sh]
abbrev dS:List DL.Md:=[.sh,.sh,.sh,.sh,.sh,.sh,.sh,.sh,.sh,.sh,.sh,.sh]
abbrev d7:List DL.Md:=[.bw,.bw,.sh,.sh]
abbrev eO:List DL.Md:=[.bw,.bw,.bw,.bw,.bw,.sh,.sh,.sh]
abbrev fH:List DL.Md:=[.bw,.bw,.ow,.sh,.sh]
abbrev fG:List DL.Md:=[.bw,.bw,.bw,.sh,.sh,.ow,.ow,.sh,.sh,.sh]
abbrev fF:List DL.Md:=[.bw,.sh,.ow,.sh,.sh]
abbrev fW:List DL.Md:=[.bw,.bw,.bw]
abbrev gA:List DL.Md:=[.sh,.bw,.bw,.ow,.sh,.sh]
abbrev gz:List DL.Md:=[.bw,.bw,.bw,.sh]
abbrev gy:List DL.Md:=[.bw,.bw,.bw,.sh,.sh,.sh]
abbrev gN:List DL.Md:=[.bw,.bw,.sh,.ow,.sh]
abbrev iH:List DL.Md:=[.sh,.bw,.bw,.ow,.sh]
abbrev iG:List DL.Md:=[.bw,.sh,.sh,.sh,.sh]
abbrev iF:List DL.Md:=[.bw,.bw,.bw,.sh,.sh,.ow,.sh,.sh,.sh]
abbrev jd:List DL.Md:=[.bw,.bw,.bw,.bw]
abbrev jb:List DL.Md:=[.bw,.sh,.sh]
abbrev jO:List DL.Md:=[.sh,.bw,.ow,.sh]
abbrev jN:List DL.Md:=[.bw,.bw,.bw,.bw,.ow,.ow,.sh,.sh]
abbrev jM:List DL.Md:=[.bw,.bw,.bw,.sh,.sh,.sh,.sh,.sh,.sh]
abbrev lB:List DL.Md:=[.bw,.bw,.sh,.sh,.sh]
abbrev lA:List DL.Md:=[.bw,.bw,.bw,.ow,.sh,.ow,.ow,.sh,.sh,.sh]
abbrev nM:List DL.Md:=[.bw,.ow,.sh,.sh,.sh]
abbrev nL:List DL.Md:=[.bw,.bw,.bw,.sh,.sh,.sh,.sh,.sh,.sh,.sh]
abbrev nI:List DL.Md:=[.bw,.bw,.bw,.sh,.sh,.ow,.sh,.sh,.sh,.sh]
abbrev nH:List DL.Md:=[.sh,.sh,.sh,.sh,.sh,.sh]
abbrev rj:List DL.Md:=[.bw,.bw,.bw,.bw,.ow,.ow,.sh,.ow]
abbrev rh:List DL.Md:=[.bw,.bw,.bw,.ow,.sh,.ow,.sh,.sh,.sh]
abbrev re:List DL.Md:=[.bw,.bw,.bw,.ow,.ow,.ow,.sh,.sh,.sh]
abbrev rc:List DL.Md:=[.bw,.bw,.sh,.sh,.sh,.sh,.sh,.sh,.sh]
abbrev ra:List DL.Md:=[.bw,.bw,.sh,.sh,.sh,.sh,.sh,.sh,.sh,.sh]
theorem wA{α:Type}(us:List α)(h:us.length=1):∃a0,us=[a0]:=by match us,h with
|[_],_=>exact⟨_,rfl⟩
theorem pN{α:Type}(us:List α)(h:us.length=2):∃a0 a1,us=[a0,a1]:=by match us,h with
|[_,_],_=>exact⟨_,_,rfl⟩
theorem lN{α:Type}(us:List α)(h:us.length=3):∃a0 a1 a2,us=[a0,a1,a2]:=by match us,h with
|[_,_,_],_=>exact⟨_,_,_,rfl⟩
def dE(i:Nat):Stmt:=TV.main.body.getD i (.Pass ⟨0,0,0,0⟩)
structure Txt(K:W.Frag)(mg:Str->Option a_):Prop where
 b_len:mg "len" = none
 b_range:mg "range" = none
 b_tuple:mg "tuple" = none
 b_isinstance:mg "isinstance" = none
 b_bool:mg "bool" = none
 b_int:mg "int" = none
 b_enumerate:mg "enumerate" = none
 b_list:mg "list" = none
 b_sorted:mg "sorted" = none
 b_min:mg "min" = none
 b_zip:mg "zip" = none
 b_ValueError:mg "ValueError" = none
 b_max:mg "max" = none
def uU:Str->Bool:=fun nm=>(["TradeError","TooMany","NotSquare","NoFraction","NoDeed","NoLine","NoRow","NoOwn","NotOwned","NoOrder","NoText","NoTable"]:List Str).contains nm
def tK:Str->Bool:=fun nm=>(["NoOrder"]:List Str).contains nm
def oZ:Str->Option Bool:=fun nm=>if (["NoDeed"]:List Str).contains nm=true then some true else if (["TradeError","TooMany","NotSquare","NoFraction","NoLine","NoRow","NoOwn","NotOwned","NoOrder","NoText","NoTable"]:List Str).contains nm=true then some false else none
def pv:Str->Option Bool:=fun nm=>if (["NoFraction"]:List Str).contains nm=true then some true else if (["TradeError","TooMany","NotSquare","NoDeed","NoLine","NoRow","NoOwn","NotOwned","NoOrder","NoText","NoTable"]:List Str).contains nm=true then some false else none
def pc:Str->Option Bool:=fun nm=>if (["NotSquare"]:List Str).contains nm=true then some true else if (["TradeError","TooMany","NoFraction","NoDeed","NoLine","NoRow","NoOwn","NotOwned","NoOrder","NoText","NoTable"]:List Str).contains nm=true then some false else none
def oW:Str->Option Bool:=fun nm=>if (["TooMany"]:List Str).contains nm=true then some true else if (["TradeError","NotSquare","NoFraction","NoDeed","NoLine","NoRow","NoOwn","NotOwned","NoOrder","NoText","NoTable"]:List Str).contains nm=true then some false else none
def pe:Str->Option Bool:=fun nm=>if (["NotOwned"]:List Str).contains nm=true then some true else if (["TradeError","TooMany","NotSquare","NoFraction","NoDeed","NoLine","NoRow","NoOwn","NoOrder","NoText","NoTable"]:List Str).contains nm=true then some false else none
def oR:Str->Option Bool:=fun nm=>if (["NoOwn"]:List Str).contains nm=true then some true else if (["TradeError","TooMany","NotSquare","NoFraction","NoDeed","NoLine","NoRow","NotOwned","NoOrder","NoText","NoTable"]:List Str).contains nm=true then some false else none
def oS:Str->Option Bool:=fun nm=>if (["NoRow"]:List Str).contains nm=true then some true else if (["TradeError","TooMany","NotSquare","NoFraction","NoDeed","NoLine","NoOwn","NotOwned","NoOrder","NoText","NoTable"]:List Str).contains nm=true then some false else none
def o6:Str->Option Bool:=fun nm=>if (["NoLine"]:List Str).contains nm=true then some true else if (["TradeError","TooMany","NotSquare","NoFraction","NoDeed","NoRow","NoOwn","NotOwned","NoOrder","NoText","NoTable"]:List Str).contains nm=true then some false else none
def oV:Str->Option Bool:=fun nm=>if (["NoTable"]:List Str).contains nm=true then some true else if (["TradeError","TooMany","NotSquare","NoFraction","NoDeed","NoLine","NoRow","NoOwn","NotOwned","NoOrder","NoText"]:List Str).contains nm=true then some false else none
def o7:Str->Option Bool:=fun nm=>if (["NoText"]:List Str).contains nm=true then some true else if (["TradeError","TooMany","NotSquare","NoFraction","NoDeed","NoLine","NoRow","NoOwn","NotOwned","NoOrder","NoTable"]:List Str).contains nm=true then some false else none
def oU:Str->Option Bool:=fun nm=>if (["NoOrder"]:List Str).contains nm=true then some true else if (["TradeError","TooMany","NotSquare","NoFraction","NoDeed","NoLine","NoRow","NoOwn","NotOwned","NoText","NoTable"]:List Str).contains nm=true then some false else none
def pj:Str->Option Bool:=fun nm=>if (["TradeError","TooMany","NotSquare","NoFraction","NoDeed","NoLine","NoRow","NoOwn","NotOwned","NoOrder","NoText","NoTable"]:List Str).contains nm=true then some true else if ([]:List Str).contains nm=true then some false else none
def pi:Str->Option Bool:=fun nm=>if (["TradeError","TooMany","NotSquare","NoFraction","NoDeed","NoLine","NoRow","NoOwn","NotOwned","NoOrder","NoText","NoTable"]:List Str).contains nm=true then some true else if ([]:List Str).contains nm=true then some false else none
def pO:Str->Bool:=fun nm=>(["NoOrder","NoText"]:List Str).contains nm
abbrev ma:Stmt:=HI (dE 10)
theorem Pl:FnScope ["self","at"] ["self","at"] (aM ma):=dG
theorem JD:∀(kV doc pm:a_)(an:Option Addr)(cdv ct:a_)(us:List a_),us.length=([("self" : Str),"at"]).length->Tk (W.fnOf "__init__" "NoOrder.__init__" (bS ma) (aW ma) (aM ma) .none kV doc pm an cdv ct) ⟨us,[]⟩=pure (([("self" : Str),"at"]).zip us):=fun _ _ _ _ _ _ us hl=>by obtain⟨u0,u1,rfl⟩:=pN us hl;kernel_rfl
theorem Lf{P:A_}{w:M_}{K:W.Frag}{mg:Str->Option a_}{C T fI:Addr}{bm:List a_}{fd:Q7}(F:Fun K "__init__" "NoOrder.__init__" ma fI fd)(xi:XI K C bm "at")(hm:mg "TradeError" = some (.ref T))(hT:XT K T)(base:Heap):FnOk P w K mg base dN 1 fI fd ["self","at"] (vO C "at"):=Lg (k:=0) F Pl xi fun cdv A outer s H E=>Ew (yA (Kt (by rfl) hm hT (iD (kS (i:=0) rfl (gm rfl)) (iD (GS (c:=cI) (IM (IK (j:=1) rfl (gm rfl) IL (fun _ h=>h))) (by decide+kernel)) kh)))) (KG (KB (kS (i:=0) rfl (gm rfl)) (kS (i:=1) rfl (gm rfl))))
abbrev zT:Stmt:=dE 60
abbrev Fh:List Str:=["_law_script","_law_k","_law_cell_here","_law_stirred"]
abbrev tU:List Str:=["_law_script","_law_k"]
theorem uQ:FnScope Fh tU (aM zT):=dG
def uA:FS:=(seqF (aV d7 2 (ci 0)) (seqF (d8 d7 (bW (f2 (gv 1) (fC (aP (gv 0) aN) lenD) ku)) (seqF (aV d7 2 (f2 (f2 (gv 0) (gv 1) dj) (f2 (ci 10) (ci 60) je) cP)) bN) bN) (seqF (d8 d7 (fL (bW (f2 (fC (aP (gv 0) aN) lenD) (ci 0) kx)) (bW (f2 (f2 (f2 (gv 0) (ci 0) dj) (ci 2) cP) (ci 0) eqD))) (seqF (retF d7 (gv 2)) bN) bN) (seqF (aV d7 3 (f2 (f2 (f2 (f2 (f2 (f2 (f2 (gv 2) (f2 (f2 (ci 7) (gv 1) fm) (gv 1) fm) addA) (f2 (ci 13) (gv 1) fm) addA) (ci 5) addA) (ci 48271) fm) (ci 2147483647) cP) (ci 69621) fm) (ci 1000000007) cP)) (seqF (retF d7 (f2 (f2 (f2 (f2 (f2 (gv 3) (ci 1) addA) (ci 40692) fm) (ci 2147483629) cP) (ci 39373) fm) (ci 999999937) cP)) bN)))))
def k9:List D->Res D:=fun ds=>bP false (uA (cO Fh.length ds))
variable{P:A_}{w:M_}{K:W.Frag}{mg:Str->Option a_}{base:Heap}
theorem Li(T:Txt K mg)(A:DefAt K mg "_law_cell" zT):Callee P w K mg base "_law_cell" tU [] 1 false q0 k9:=
 eZ (m':=d7) A uQ fun f cdv A outer s H g E hr hu1=>have hu64:=hr.units;(aT (dv 2 uQ.nd Cq)
   (aT (de (q9 (aO 1) (bE (hJ (by rfl) T.b_len (dh (aO 0) dA)))) (aT (dv 2 uQ.nd (gT (xB hu1 (aO 0) (aO 1)) (bE (Ct iB iB))))
   bO)
   bO)
   (aT (de (SW.toQ (rY (lz (bE (hJ (by rfl) T.b_len (dh (aO 0) dA))) iB) (sB (eF hu64 (bE (gT (xB hu1 (aO 0) iB) iB)) iB)))) (aT (c9 (v_ 2))
   bO)
   bO)
   (aT (dv 3 uQ.nd (gT (bE (mH (bE (gT (bE (mH (bE (gG (bE (gG (bE (gG (aO 2) (bE (mH (bE (mH iB (aO 1))) (aO 1))))) (bE (mH iB (aO 1))))) iB)) iB)) iB)) iB)) iB))
   (aT (c9 (gT (bE (mH (bE (gT (bE (mH (bE (gG (aO 3) iB)) iB)) iB)) iB)) iB))
   bO)))))
abbrev yZ:Stmt:=dE 61
abbrev Fo:List Str:=["_law_cell_here","_law_m","_law_row_here","_law_thing"]
abbrev tF:List Str:=["_law_cell_here","_law_m"]
theorem tZ:FnScope Fo tF (aM yZ):=dG
abbrev Gb:FS:=(seqF (eG "list" jO 2 (aP (f2 (gv 0) (f2 (gv 3) (ci 1) addA) cP) (aP (gv 3) aN)) insD) (seqF (aV jO 0 (f2 (gv 0) (f2 (gv 3) (ci 1) addA) iV)) bN))
def Aa:FS:=(seqF (aV [.sh,.bw,.sh,.sh] 2 (fq aN)) (seqF (g6 jO (gC gM (aP (gv 1) aN)) (cU 3) Gb) (seqF (retF jO (fC (aP (gv 2) aN) tupD)) bN)))
def nj:List D->Res D:=fun ds=>bP false (Aa (cO Fo.length ds))
theorem K3(T:Txt K mg)(A:DefAt K mg "_law_row" yZ):Callee P w K mg base "_law_row" tF [] 1 false [.sh,.bw] nj:=
 eZ (m':=jO) A tZ fun f cdv A outer s H g E hr hu1=>(aT (io 2 tZ.nd (by rfl) (gP rfl) (fR di))
   (aT (mG QS rfl (qa (by rfl) T.b_range (dh (aO 1) dA)) (eB 3 tZ.nd) (aT (jE 2 rfl QN US PySem.F.type_list_insert Oc HL (by rfl) (gm rfl) (cz (gT (aO 0) (bE (gG (aO 3) iB))) (cz (v_ 3) di)))
   (aT (dv 0 tZ.nd (mL (aO 0) (bE (gG (aO 3) iB))))
   bO)))
   (aT (c9 (oN (by rfl) T.b_tuple (dh (aO 2) dA)))
   bO)))
abbrev qN:Stmt:=dE 62
abbrev uH:List Str:=["_law_script","_law_at_here","_law_n","_law_m"]
abbrev Az:List Str:=["_law_script","_law_at_here","_law_n","_law_m"]
theorem Gk:FnScope uH Az (aM qN):=dG
def AL:FS:=(seqF (retF jd (fC (aP (gb 1 [3,0,1] (gC gM (aP (gv 2) aN)) (cU 0) (fun _=>Res.ok true) (bX (aP (bX (aP (gv 2) (aP (f2 (gv 3) (gv 0) addA) aN)) [] k9) (aP (gv 1) aN)) [] nj)) aN) tupD)) bN)
def uE:List D->Res D:=fun ds=>bP false (AL (cO uH.length ds))
theorem NS(T:Txt K mg)(A:DefAt K mg "_law_wishes" qN)(c__law_cell:Callee P w K mg base "_law_cell" tU [] 1 false q0 k9)(c__law_row:Callee P w K mg base "_law_row" tF [] 1 false [.sh,.bw] nj):Callee P w K mg base "_law_wishes" Az [] 2 false jd uE:=
 eZ (m':=jd) A Gk fun f cdv A outer s H g E hr hu1=>(aT (c9 (oN (by rfl) T.b_tuple (dh (SO.toB (lZ (X:=(cX dN P w K mg base uH "_law_wishes" (aM qN) f cdv A outer s H E).nox) (N':=["_law_hand","_law_m","_law_script","_law_at_here"]) (nl:=1) (cap:=[3,0,1]) Gk.nd rfl (iX (osc:=(aM qN)) (ON:=uH) rfl rfl (by decide+kernel)) (jW.toC (qa (by rfl) T.b_range (dh (aO 2) dA))) (fun _ _ _ _ _ _=>(eB 0 (show RC (["_law_hand","_law_m","_law_script","_law_at_here"]:List Str)by decide+kernel))) (iA (by decide)) (fun _ _ _ _ _ _=>mU) (fun _ _ _ _ _ _=>(cZ c__law_row (eR (cZ c__law_cell (aQ (aO 2) (aQ (bE (gG (aO 3) (aO 0))) cw))) (aQ (aO 1) cw)))))) dA)))
   bO)
abbrev zU:Stmt:=dE 63
abbrev Fi:List Str:=["_law_cell_here","_law_n","_law_m","_law_owns_here","_law_hand","_law_thing"]
abbrev An:List Str:=["_law_cell_here","_law_n","_law_m"]
theorem qr:FnScope Fi An (aM zU):=dG
abbrev Ay:FS:=(seqF (aV gA 5 (f2 (gv 0) (f2 (gv 2) (ci 1) addA) cP)) (seqF (aV gA 0 (f2 (gv 0) (f2 (gv 2) (ci 1) addA) iV)) (seqF (d8 gA (iQ (bW (f2 (gv 5) (gv 2) eqD)) (bW (f2 (gv 5) (gv 3) iN))) (seqF (eG "list" gA 3 (aP (fun _=>Res.ok D.non) aN) appD) bN) (seqF (eG "list" gA 3 (aP (gv 5) aN) appD) bN)) bN)))
def Ai:FS:=(seqF (aV [.sh,.bw,.bw,.sh,.sh,.sh] 3 (fq aN)) (seqF (g6 gA (gC gM (aP (gv 1) aN)) (cU 4) Ay) (seqF (retF gA (fC (aP (gv 3) aN) tupD)) bN)))
def uB:List D->Res D:=fun ds=>bP false (Ai (cO Fi.length ds))
theorem Lj(T:Txt K mg)(A:DefAt K mg "_law_owns" zU):Callee P w K mg base "_law_owns" An [] 1 false [.sh,.bw,.bw] uB:=
 eZ (m':=gA) A qr fun f cdv A outer s H g E hr hu1=>have hu64:=hr.units;(aT (io 3 qr.nd (by rfl) (gP rfl) (fR di))
   (aT (mG QS rfl (qa (by rfl) T.b_range (dh (aO 1) dA)) (eB 4 qr.nd) (aT (dv 5 qr.nd (gT (aO 0) (bE (gG (aO 2) iB))))
   (aT (dv 0 qr.nd (mL (aO 0) (bE (gG (aO 2) iB))))
   (aT (de (SW.toQ (ja (eF hu64 (aO 5) (aO 2)) (pL (lx hu1 (aO 5) (aO 3))))) (aT (jE 3 rfl QN Q9 Q_ l9 mW (by rfl) (gm rfl) (cz jF di))
   bO)
   (aT (jE 3 rfl QN Q9 Q_ l9 mW (by rfl) (gm rfl) (cz (v_ 5) di))
   bO))
   bO))))
   (aT (c9 (oN (by rfl) T.b_tuple (dh (aO 3) dA)))
   bO)))
abbrev zB:Stmt:=dE 14
abbrev Fs:List Str:=["value"]
abbrev Af:List Str:=["value"]
theorem Pi:FnScope Fs Af (aM zB):=dG
def OP:FS:=(seqF (retF [Md.bw] (gq (f1 (gv 0) (jg "int")) (lh (f1 (gv 0) (jg "bool"))))) bN)
def qi:List D->Res D:=fun ds=>bP false (OP (cO Fs.length ds))
theorem K6(T:Txt K mg)(A:DefAt K mg "is_whole" zB):Callee P w K mg base "is_whole" Af [] 1 false [Md.bw] qi:=
 eZ (m':=[Md.bw]) A Pi fun f cdv A outer s H g E hr hu1=>(aT (c9 (sd (se "int" "int" rfl (DW _) (by rfl) T.b_isinstance (by rfl) T.b_int (aO 0)) (sf (Cs (se "bool" "bool" rfl (Ek _) (by rfl) T.b_isinstance (by rfl) T.b_bool (aO 0))))))
   bO)
abbrev zA:Stmt:=dE 15
abbrev Fq:List Str:=["value","bound"]
abbrev Ae:List Str:=["value","bound"]
theorem Ph:FnScope Fq Ae (aM zA):=dG
def ni:FS:=(seqF (retF q0 (gq (bX (aP (gv 0) aN) [] qi) (kd (ci 0) (gv 0) (gv 1) rA ku))) bN)
def kW:List D->Res D:=fun ds=>bP false (ni (cO Fq.length ds))
theorem K5(T:Txt K mg)(A:DefAt K mg "is_below" zA)(c_is_whole:Callee P w K mg base "is_whole" Af [] 1 false [Md.bw] qi):Callee P w K mg base "is_below" Ae [] 2 false q0 kW:=
 eZ (m':=q0) A Ph fun f cdv A outer s H g E hr hu1=>(aT (c9 (sd (cZ c_is_whole (aQ (aO 0) cw)) (sf (MK Ca vW Cg B8 iB (aO 0) (aO 1)))))
   bO)
abbrev Ag:Stmt:=dE 16
abbrev F1:List Str:=["numbers","bound","ahead","place","number"]
abbrev uJ:List Str:=["numbers","bound"]
theorem vF:FnScope F1 uJ (aM Ag):=dG
abbrev k6:FS:=(seqF (d8 fH (iQ (fB (eU (bX (aP (gv 4) (aP (gv 1) aN)) [] kW))) (bW (f2 (gv 4) (gv 2) iN))) (seqF (retF fH (gv 3)) bN) bN) (seqF (gO fH 2 (gv 4) (fun _=>Res.ok (D.bl true))) bN))
def qM:FS:=(seqF (aV lB 2 (fun _=>Res.ok (D.dic []))) (seqF (g6 fH (jT (gv 0)) (ir (eJ (cU 3) (eJ (cU 4) il))) k6) (seqF (retF fH (fC (aP (gv 0) aN) lenD)) bN)))
def ny:List D->Res D:=fun ds=>bP false (qM (cO F1.length ds))
theorem NV(T:Txt K mg)(A:DefAt K mg "first_wrong" Ag)(c_is_below:Callee P w K mg base "is_below" Ae [] 2 false q0 kW):Callee P w K mg base "first_wrong" uJ [] 3 false q0 ny:=
 eZ (m':=fH) A vF fun f cdv A outer s H g E hr hu1=>(aT (io 2 vF.nd (by rfl) (gP rfl) mQ)
   (aT (ss QS rfl (Dc (by rfl) T.b_enumerate (vJ 0)) (rQ rfl (lV (eB 3 vF.nd) (lV (eB 4 vF.nd) rP))) (aT (de (SW.toQ (ja (mK (lT (bE (cZ c_is_below (aQ (aO 4) (aQ (aO 1) cw)))))) (pL (lx hu1 (aO 4) (aO 2))))) (aT (c9 (v_ 3))
   bO)
   bO)
   (aT (n6 2 hu1 rfl (by rfl) (gm rfl) (aO 4) d6)
   bO)))
   (aT (c9 (hJ (by rfl) T.b_len (dh (aO 0) dA)))
   bO)))
abbrev Au:Stmt:=dE 17
abbrev F6:List Str:=["numbers","bound"]
abbrev AG:List Str:=["numbers","bound"]
theorem P8:FnScope F6 AG (aM Au):=dG
def qp:FS:=(seqF (retF q0 (f2 (bX (aP (gv 0) (aP (gv 1) aN)) [] ny) (fC (aP (gv 0) aN) lenD) eqD)) bN)
def qq:List D->Res D:=fun ds=>bP false (qp (cO F6.length ds))
theorem MY(T:Txt K mg)(A:DefAt K mg "are_unlike" Au)(c_first_wrong:Callee P w K mg base "first_wrong" uJ [] 3 false q0 ny):Callee P w K mg base "are_unlike" AG [] 4 false q0 qq:=
 eZ (m':=q0) A P8 fun f cdv A outer s H g E hr hu1=>have hu64:=hr.units;(aT (c9 (lq hu64 (bE (cZ c_first_wrong (aQ (aO 0) (aQ (aO 1) cw)))) (bE (hJ (by rfl) T.b_len (dh (aO 0) dA)))))
   bO)
abbrev AK:Stmt:=dE 18
abbrev Gq:List Str:=["numbers","bound"]
abbrev uZ:List Str:=["numbers","bound"]
theorem Qi:FnScope Gq uZ (aM AK):=dG
def qz:FS:=(seqF (retF q0 (gq (f2 (fC (aP (gv 0) aN) lenD) (gv 1) eqD) (bX (aP (gv 0) (aP (gv 1) aN)) [] qq))) bN)
def nu:List D->Res D:=fun ds=>bP false (qz (cO Gq.length ds))
theorem OO(T:Txt K mg)(A:DefAt K mg "has_each_once" AK)(c_are_unlike:Callee P w K mg base "are_unlike" AG [] 4 false q0 qq):Callee P w K mg base "has_each_once" uZ [] 5 false q0 nu:=
 eZ (m':=q0) A Qi fun f cdv A outer s H g E hr hu1=>have hu64:=hr.units;(aT (c9 (sd (lq hu64 (bE (hJ (by rfl) T.b_len (dh (aO 0) dA))) (aO 1)) (sf (cZ c_are_unlike (aQ (aO 0) (aQ (aO 1) cw))))))
   bO)
abbrev zC:Stmt:=dE 22
abbrev Ft:List Str:=["wishes","order"]
abbrev tJ:List Str:=["wishes","order"]
theorem Pj:FnScope Ft tJ (aM zC):=dG
def pf:FS:=(seqF (d8 q0 (bW (f2 (gv 1) (fun _=>Res.ok D.non) jR)) (seqF (retF q0 (fC (aP (fC (aP (gv 0) aN) lenD) aN) lO)) bN) bN) (seqF (d8 q0 (fB (eU (bX (aP (gv 1) (aP (fC (aP (gv 0) aN) lenD) aN)) [] nu))) (seqF (fun _=>Out.stuck) bN) bN) (seqF (retF q0 (fC (aP (gv 1) aN) kN)) bN)))
def mh:List D->Res D:=fun ds=>bP false (pf (cO Ft.length ds))
theorem K7(T:Txt K mg)(A:DefAtD K mg "order_of" zC [Value.none])(c_has_each_once:Callee P w K mg base "has_each_once" uZ [] 5 false q0 nu):Callee P w K mg base "order_of" tJ [] 6 false q0 mh:=by
 refine m6 (ds:=[]) (k:=5) (fs:=pf) (m':=q0) A Pj rfl 2 rfl (fun _ _ _ _ _ _ _ us hl=>by obtain⟨u0,u1,rfl⟩:=pN us hl;exact⟨_,rfl,rfl⟩) fun f cdv A outer s H g E hr=>?_;have hu1:=im hr;have hu64:=hr.units;exact(aT (de (lw (aO 1) (bE jF)) (aT (c9 (SO.toE (sH rfl (by rfl) T.b_list (by rfl) T.b_range (dh (bE (hJ (by rfl) T.b_len (dh (aO 0) dA))) dA))))
   bO)
   bO)
   (aT (de (mK (lT (bE (cZ c_has_each_once (aQ (aO 1) (aQ (bE (hJ (by rfl) T.b_len (dh (aO 0) dA))) cw)))))) (aT Lv
   bO)
   bO)
   (aT (c9 (SO.toE (sx (by rfl) T.b_list (dh (aO 1) dA))))
   bO)))
abbrev Aw:Stmt:=dE 22
abbrev F8:List Str:=["wishes","order"]
abbrev uO:List Str:=["wishes","order"]
theorem P9:FnScope F8 uO (aM Aw):=dG
def uL:FS:=(seqF (d8 dU (bW (f2 (gv 1) (fun _=>Res.ok D.non) jR)) (seqF (retF dU (fC (aP (fC (aP (gv 0) aN) lenD) aN) lO)) bN) bN) (seqF (d8 dU (fB (eU (bX (aP (gv 1) (aP (fC (aP (gv 0) aN) lenD) aN)) [] nu))) (seqF (rZ dU "NoOrder" "at" (aP (bX (aP (gv 1) (aP (fC (aP (gv 0) aN) lenD) aN)) [] ny) aN)) bN) bN) (seqF (retF dU (fC (aP (gv 1) aN) kN)) bN)))
def jz:List D->Res D:=fun ds=>bP false (uL (cO F8.length ds))
theorem M4(T:Txt K mg)(A:DefAtD K mg "order_of" Aw [Value.none])(c_has_each_once:Callee P w K mg base "has_each_once" uZ [] 5 false q0 nu)(c_first_wrong:Callee P w K mg base "first_wrong" uJ [] 3 false q0 ny){C_NoOrder:Addr}(xi_NoOrder:XCI P w K mg base "NoOrder" C_NoOrder "at")(xn_NoOrder:XN K "NoOrder" C_NoOrder):CalleeX P w K mg base "order_of" uO [] 6 false dU jz:=by
 refine qc (k:=5) (fs:=uL) (m':=dU) A P9 rfl (fun _ _ _ _ _ _ _ us hl=>by obtain⟨u0,u1,rfl⟩:=pN us hl;exact⟨_,rfl,rfl⟩) fun f cdv A outer s H g E hr=>?_;have hu1:=im hr;have hu64:=hr.units;exact(aT (de (lw (aO 1) (bE jF)) (aT (c9 (SO.toE (sH rfl (by rfl) T.b_list (by rfl) T.b_range (dh (bE (hJ (by rfl) T.b_len (dh (aO 0) dA))) dA))))
   bO)
   bO)
   (aT (de (mK (lT (bE (cZ c_has_each_once (aQ (aO 1) (aQ (bE (hJ (by rfl) T.b_len (dh (aO 0) dA))) cw)))))) (aT (ML rfl xi_NoOrder xn_NoOrder (hr.mono (by decide)) (by rfl) (cz (cZ c_first_wrong (aQ (aO 1) (aQ (bE (hJ (by rfl) T.b_len (dh (aO 0) dA))) cw))) di))
   bO)
   bO)
   (aT (c9 (SO.toE (sx (by rfl) T.b_list (dh (aO 1) dA))))
   bO)))
abbrev qt:Stmt:=dE 24
abbrev tT:List Str:=["row","things"]
abbrev tV:List Str:=["row","things"]
theorem Ga:FnScope tT tV (aM qt):=dG
def Aj:FS:=(seqF (retF q0 (f2 (gb 1 [1] (df dY (gv 0)) (cU 0) (bW (f2 (gv 0) (gv 1) iN)) (gv 0)) (ci 0) dj)) bN)
def me:List D->Res D:=fun ds=>bP false (Aj (cO tT.length ds))
theorem Ll(T:Txt K mg)(A:DefAt K mg "best_left" qt):Callee P w K mg base "best_left" tV [] 1 false q0 me:=
 eZ (m':=q0) A Ga fun f cdv A outer s H g E hr hu1=>(aT (c9 (g9 hu1 (SO.toB (lZ (X:=(cX dN P w K mg base tT "best_left" (aM qt) f cdv A outer s H E).nox) (N':=["thing","things"]) (nl:=1) (cap:=[1]) Ga.nd rfl (iX (osc:=(aM qt)) (ON:=tT) rfl rfl (by decide+kernel)) (ju (aO 0)) (fun _ _ _ _ _ _=>(eB 0 (show RC (["thing","things"]:List Str)by decide+kernel))) (iA (by decide)) (fun _ _ _ _ _ _=>(mV (lx hu1 (aO 0) (aO 1)))) (fun _ _ _ _ _ _=>(v_ 0)))) iB))
   bO)
abbrev Ax:Stmt:=dE 25
abbrev F9:List Str:=["owns","line","thing","hand"]
abbrev uP:List Str:=["owns","line","thing"]
theorem Go:FnScope F9 uP (aM Ax):=dG
abbrev qx:FS:=(seqF (d8 gz (bW (f2 (f2 (gv 0) (gv 3) dj) (gv 2) eqD)) (seqF (retF gz (gv 3)) bN) bN) bN)
def AQ:FS:=(seqF (g6 gz (df dY (gv 1)) (cU 3) qx) (seqF (retF gz (fun _=>Res.ok D.non)) bN))
def ng:List D->Res D:=fun ds=>bP false (AQ (cO F9.length ds))
theorem M5(T:Txt K mg)(A:DefAt K mg "owner_left" Ax):Callee P w K mg base "owner_left" uP [] 1 false fW ng:=
 eZ (m':=gz) A Go fun f cdv A outer s H g E hr hu1=>have hu64:=hr.units;(aT (Ki QS rfl (ju (aO 1)) (fun _=>(eB 3 Go.nd)) (fun _=>(aT (de (eF hu64 (xB hu1 (aO 0) (aO 3)) (aO 2)) (aT (c9 (v_ 3))
   bO)
   bO)
   bO)))
   (aT (c9 jF)
   bO))
abbrev AW:Stmt:=dE 30
abbrev Gp:List Str:=["owns","line","thing","owner"]
abbrev A5:List Str:=["owns","line","thing"]
theorem Gu:FnScope Gp A5 (aM AW):=dG
def A4:FS:=(seqF (aV gz 3 (bX (aP (gv 0) (aP (gv 1) (aP (gv 2) aN))) [] ng)) (seqF (retF gz (lE (bW (f2 (gv 3) (fun _=>Res.ok D.non) jR)) (f2 (gv 1) (ci 0) dj) (gv 3))) bN))
def qP:List D->Res D:=fun ds=>bP false (A4 (cO Gp.length ds))
theorem Pc(T:Txt K mg)(A:DefAt K mg "hand_pointed_at" AW)(c_owner_left:Callee P w K mg base "owner_left" uP [] 1 false fW ng):Callee P w K mg base "hand_pointed_at" A5 [] 2 false fW qP:=
 eZ (m':=gz) A Gu fun f cdv A outer s H g E hr hu1=>(aT (dv 3 Gu.nd (cZ c_owner_left (aQ (aO 0) (aQ (aO 1) (aQ (aO 2) cw)))))
   (aT (c9 (wI (lw (aO 3) (bE jF)) (g9 hu1 (aO 1) iB) (v_ 3)))
   bO))
abbrev zX:Stmt:=dE 31
abbrev FY:List Str:=["first","targets","behind","ring","hand"]
abbrev Aq:List Str:=["first","targets","behind"]
theorem uT:FnScope FY Aq (aM zX):=dG
abbrev AC:FQ:=(fL (bW (f2 (gv 4) (gv 0) kx)) (bW (f2 (fC (aP (gv 3) aN) lenD) (fC (aP (gv 1) aN) lenD) ku)))
abbrev F0:FS:=(seqF (eG "list" iH 3 (aP (iq (aP (gv 4) (aP (f2 (gv 1) (gv 4) dj) aN))) aN) appD) (seqF (aV iH 4 (f2 (gv 2) (gv 4) dj)) bN))
def Al:FS:=(seqF (aV [.sh,.bw,.bw,.sh,.sh] 3 (fq (aP (iq (aP (gv 0) (aP (f2 (gv 1) (gv 0) dj) aN))) aN))) (seqF (aV iH 4 (f2 (gv 2) (gv 0) dj)) (seqF (hV iH AC F0 64) (seqF (retF iH (lE (bW (f2 (gv 4) (gv 0) eqD)) (fC (aP (gv 3) aN) tupD) (fun _=>Res.ok D.non))) bN))))
def tR:List D->Res D:=fun ds=>bP false (Al (cO FY.length ds))
theorem Lq(T:Txt K mg)(A:DefAt K mg "ring_from" zX):Callee P w K mg base "ring_from" Aq [] 1 false [.sh,.bw,.bw] tR:=
 eZ (m':=iH) A uT fun f cdv A outer s H g E hr hu1=>have hu64:=hr.units;(aT (io 3 uT.nd (by rfl) (gP rfl) (fR (cz (j8 (cz (v_ 0) (cz (g9 hu1 (aO 1) (aO 0)) di))) di)))
   (aT (dv 4 uT.nd (g9 hu1 (aO 2) (aO 0)))
   (aT (xQ 64 QS (SW.toQ (rY (lz (aO 4) (aO 0)) (sB (q9 (bE (hJ (by rfl) T.b_len (dh (aO 3) dA))) (bE (hJ (by rfl) T.b_len (dh (aO 1) dA))))))) (aT (jE 3 rfl QN Q9 Q_ l9 mW (by rfl) (gm rfl) (cz (j8 (cz (v_ 4) (cz (g9 hu1 (aO 1) (aO 4)) di))) di))
   (aT (dv 4 uT.nd (g9 hu1 (aO 2) (aO 4)))
   bO)))
   (aT (c9 (wI (eF hu64 (aO 4) (aO 0)) (oN (by rfl) T.b_tuple (dh (aO 3) dA)) jF))
   bO))))
abbrev nv:Stmt:=dE 32
abbrev pw:List Str:=["wishes","owns","line","things","targets","behind","hand","walks"]
abbrev AV:List Str:=["wishes","owns","line","things"]
theorem pA:FnScope pw AV (aM nv):=dG
abbrev Gs:FS:=(seqF (gO jN 4 (gv 6) (bX (aP (f2 (gv 0) (gv 6) dj) (aP (gv 3) aN)) [] me)) (seqF (gO jN 5 (gv 6) (bX (aP (gv 1) (aP (gv 2) (aP (f2 (gv 4) (gv 6) dj) aN))) [] qP)) bN))
def AT:FS:=(seqF (aV [.bw,.bw,.bw,.bw,.sh,.sh,.sh,.sh] 4 (fun _=>Res.ok (D.dic []))) (seqF (aV [.bw,.bw,.bw,.bw,.ow,.sh,.sh,.sh] 5 (fun _=>Res.ok (D.dic []))) (seqF (g6 jN (df dY (gv 2)) (cU 6) Gs) (seqF (aV jN 7 (gb 1 [4,5] (df dY (gv 2)) (cU 0) (fun _=>Res.ok true) (bX (aP (gv 0) (aP (gv 1) (aP (gv 2) aN))) [] tR))) (seqF (retF rj (fC (aP (gb 1 [] (df dY (gv 7)) (cU 0) (bW (f2 (gv 0) (fun _=>Res.ok D.non) iM)) (gv 0)) aN) sj)) bN)))))
def uW:List D->Res D:=fun ds=>bP false (AT (cO pw.length ds))
theorem O4(T:Txt K mg)(A:DefAt K mg "rings_of_round" nv)(c_best_left:Callee P w K mg base "best_left" tV [] 1 false q0 me)(c_hand_pointed_at:Callee P w K mg base "hand_pointed_at" A5 [] 2 false fW qP)(c_ring_from:Callee P w K mg base "ring_from" Aq [] 1 false [.sh,.bw,.bw] tR):Callee P w K mg base "rings_of_round" AV [] 3 false jd uW:=
 eZ (m':=rj) A pA fun f cdv A outer s H g E hr hu1=>(aT (io 4 pA.nd (by rfl) (gP rfl) mQ)
   (aT (io 5 pA.nd (by rfl) (gP rfl) mQ)
   (aT (ss QS rfl (CC (vJ 2)) (eB 6 pA.nd) (aT (n6 4 hu1 rfl (by rfl) (gm rfl) (aO 6) (cZ c_best_left (aQ (xB hu1 (aO 0) (aO 6)) (aQ (aO 3) cw))))
   (aT (n6 5 hu1 rfl (by rfl) (gm rfl) (aO 6) (cZ c_hand_pointed_at (aQ (aO 1) (aQ (aO 2) (aQ (xB hu1 (aO 4) (aO 6)) cw)))))
   bO)))
   (aT (ph 7 (X:=(cX dN P w K mg base pw "rings_of_round" (aM nv) f cdv A outer s H E).nox) (m:=jN) (N':=["hand","targets","behind"]) (nl:=1) (cap:=[4,5]) pA.nd rfl (by rfl) (by rfl) (iX (osc:=(aM nv)) (ON:=pw) rfl rfl (by decide+kernel)) (ju (aO 2)) (fun _ _ _ _ _ _=>(eB 0 (show RC (["hand","targets","behind"]:List Str)by decide+kernel))) (iA (by decide)) (fun _ _ _ _ _ _=>mU) (fun _ _ _ _ _ _=>(cZ c_ring_from (eR (v_ 0) (aQ (aO 1) (aQ (aO 2) cw))))))
   (aT (c9 (SO.toE (MW hr (by rfl) T.b_sorted (dh (SO.toB (lZ (X:=(cX dN P w K mg base pw "rings_of_round" (aM nv) f cdv A outer s H E).nox) (N':=["ring"]) (nl:=1) (cap:=[]) pA.nd rfl (iX (osc:=(aM nv)) (ON:=pw) rfl rfl (by decide+kernel)) (ju (aO 7)) (fun _ _ _ _ _ _=>(eB 0 (show RC (["ring"]:List Str)by decide+kernel))) (iA (by decide)) (fun _ _ _ _ _ _=>(mV (GX (aO 0) (bE jF)))) (fun _ _ _ _ _ _=>(v_ 0)))) dA))))
   bO)))))
abbrev yM:Stmt:=dE 27
abbrev DY:List Str:=["rings","got","ring","hand","thing"]
abbrev kl:List Str:=["rings"]
theorem qm:FnScope DY kl (aM yM):=dG
abbrev FK:FS:=(seqF (gO nM 1 (gv 3) (gv 4)) bN)
abbrev FL:FS:=(seqF (g6 nM (df dY (gv 2)) (ir (eJ (cU 3) (eJ (cU 4) il))) FK) bN)
def yN:FS:=(seqF (aV iG 1 (fun _=>Res.ok (D.dic []))) (seqF (g6 nM (df dY (gv 0)) (cU 2) FL) (seqF (retF iG (gv 1)) bN)))
def hW:List D->Res D:=fun ds=>bP false (yN (cO DY.length ds))
theorem Jb(T:Txt K mg)(A:DefAt K mg "got_in" yM):Callee P w K mg base "got_in" kl [] 1 false [Md.bw] hW:=
 eZ (m':=iG) A qm fun f cdv A outer s H g E hr hu1=>(aT (io 1 qm.nd (by rfl) (gP rfl) mQ)
   (aT (ss QS rfl (CC (vJ 0)) (eB 2 qm.nd) (aT (mG QS rfl (rS (v_ 2)) (rQ rfl (lV (eB 3 qm.nd) (lV (eB 4 qm.nd) rP))) (aT (n6 1 hu1 rfl (by rfl) (gm rfl) (aO 3) (v_ 4))
   bO))
   bO))
   (aT (pM 1 rfl (c9 (v_ 1)))
   bO)))
abbrev zY:Stmt:=dE 19
abbrev FZ:List Str:=["wishes"]
abbrev qv:List Str:=["wishes"]
theorem PD:FnScope FZ qv (aM zY):=dG
def Am:FS:=(seqF (retF [Md.bw] (fC (aP (f2 (gv 0) (ci 0) dj) aN) lenD)) bN)
def lc:List D->Res D:=fun ds=>bP false (Am (cO FZ.length ds))
theorem Lr(T:Txt K mg)(A:DefAt K mg "things_in" zY):Callee P w K mg base "things_in" qv [] 1 false [Md.bw] lc:=
 eZ (m':=[Md.bw]) A PD fun f cdv A outer s H g E hr hu1=>(aT (c9 (hJ (by rfl) T.b_len (dh (xB hu1 (aO 0) iB) dA)))
   bO)
abbrev nb:Stmt:=dE 33
abbrev oQ:List Str:=["wishes","owns","order","line","things","told","rings","got","taken"]
abbrev sP:List Str:=["wishes","owns","order"]
theorem kZ:FnScope oQ sP (aM nb):=dG
abbrev Fw:FQ:=(eU (gv 3))
abbrev FM:FS:=(seqF (aV iF 6 (bX (aP (gv 0) (aP (gv 1) (aP (gv 3) (aP (gv 4) aN)))) [] uW)) (seqF (aV iF 7 (bX (aP (gv 6) aN) [] hW)) (seqF (aV iF 8 (f1 (gv 7) sm)) (seqF (aV iF 3 (gb 1 [7] (df dY (gv 3)) (cU 0) (bW (f2 (gv 0) (gv 1) fj)) (gv 0))) (seqF (aV rh 4 (gb 1 [8] (df dY (gv 4)) (cU 0) (bW (f2 (gv 0) (gv 1) fj)) (gv 0))) (seqF (eG "list" re 5 (aP (gv 6) aN) appD) bN))))))
def sO:FS:=(seqF (aV jM 3 (bX (aP (gv 0) (aP (gv 2) aN)) [] mh)) (seqF (aV jM 4 (fC (aP (bX (aP (gv 0) aN) [] lc) aN) lO)) (seqF (aV jM 5 (fq aN)) (seqF (hV iF Fw FM 64) (seqF (retF jM (gv 5)) bN)))))
def p0:List D->Res D:=fun ds=>bP false (sO (cO oQ.length ds))
theorem Jc(T:Txt K mg)(A:DefAtD K mg "rounds" nb [Value.none])(c_order_of:Callee P w K mg base "order_of" tJ [] 6 false q0 mh)(c_things_in:Callee P w K mg base "things_in" qv [] 1 false [Md.bw] lc)(c_rings_of_round:Callee P w K mg base "rings_of_round" AV [] 3 false jd uW)(c_got_in:Callee P w K mg base "got_in" kl [] 1 false [Md.bw] hW):Callee P w K mg base "rounds" sP [] 7 false fW p0:=by
 refine m6 (ds:=[]) (k:=6) (fs:=sO) (m':=jM) A kZ rfl 3 rfl (fun _ _ _ _ _ _ _ us hl=>by obtain⟨u0,u1,u2,rfl⟩:=lN us hl;exact⟨_,rfl,rfl⟩) fun f cdv A outer s H g E hr=>?_;have hu1:=im hr;have hu64:=hr.units;exact(aT (dv 3 kZ.nd (cZ c_order_of (aQ (aO 0) (aQ (aO 2) cw))))
   (aT (dv 4 kZ.nd (SO.toE (sH rfl (by rfl) T.b_list (by rfl) T.b_range (dh (bE (cZ c_things_in (aQ (aO 0) cw))) dA))))
   (aT (io 5 kZ.nd (by rfl) (gP rfl) (fR di))
   (aT (xQ 64 QS (lT (aO 3)) (tN (m':=[.bw,.bw,.bw,.sh,.ow,.ow,.sh,.sh,.sh]) 4 (tN (m':=re) 3 (aT (dv 6 kZ.nd (cZ c_rings_of_round (aQ (aO 0) (aQ (aO 1) (aQ (aO 3) (aQ (aO 4) cw))))))
   (aT (dv 7 kZ.nd (cZ c_got_in (aQ (aO 6) cw)))
   (aT (dv 8 kZ.nd (SO.toE (CJ rfl (by rfl) T.b_list (aO 7))))
   (aT (ph 3 (X:=(cX dN P w K mg base oQ "rounds" (aM nb) f cdv A outer s H E).nox) (m:=iF) (N':=["hand","got"]) (nl:=1) (cap:=[7]) kZ.nd rfl (by rfl) (by rfl) (iX (osc:=(aM nb)) (ON:=oQ) rfl rfl (by decide+kernel)) (ju (aO 3)) (fun _ _ _ _ _ _=>(eB 0 (show RC (["hand","got"]:List Str)by decide+kernel))) (iA (by decide)) (fun _ _ _ _ _ _=>(mV (n5 hu1 (aO 0) (aO 1)))) (fun _ _ _ _ _ _=>(v_ 0)))
   (aT (ph 4 (X:=(cX dN P w K mg base oQ "rounds" (aM nb) f cdv A outer s H E).nox) (m:=rh) (N':=["thing","taken"]) (nl:=1) (cap:=[8]) kZ.nd rfl (by rfl) (by rfl) (iX (osc:=(aM nb)) (ON:=oQ) rfl rfl (by decide+kernel)) (ju (aO 4)) (fun _ _ _ _ _ _=>(eB 0 (show RC (["thing","taken"]:List Str)by decide+kernel))) (iA (by decide)) (fun _ _ _ _ _ _=>(mV (n5 hu1 (aO 0) (aO 1)))) (fun _ _ _ _ _ _=>(v_ 0)))
   (aT (jE 5 rfl QN Q9 Q_ l9 mW (by rfl) (gm rfl) (cz (v_ 6) di))
   bO)))))) rfl) rfl))
   (aT (pM 5 rfl (c9 (v_ 5)))
   bO)))))
abbrev zE:Stmt:=dE 33
abbrev Fv:List Str:=["wishes","owns","order","line","things","told","rings","got","taken"]
abbrev uC:List Str:=["wishes","owns","order"]
theorem FO:FnScope Fv uC (aM zE):=dG
def Ac:FS:=(seqF (aV rc 3 (gZ (aP (gv 0) (aP (gv 2) aN)) [] jz)) (fun _=>Out.stuck))
def o8:List D->Res D:=fun ds=>bP false (Ac (cO Fv.length ds))
theorem K9(T:Txt K mg)(A:DefAtD K mg "rounds" zE [Value.none])(c_order_of_x:CalleeX P w K mg base "order_of" uO [] 6 false dU jz):CalleeX P w K mg base "rounds" uC [] 7 false dB o8:=by
 refine qc (k:=6) (fs:=Ac) (m':=rc) A FO rfl (fun _ _ _ _ _ _ _ us hl=>by obtain⟨u0,u1,u2,rfl⟩:=lN us hl;exact⟨_,rfl,rfl⟩) fun f cdv A outer s H g E hr=>?_;have hu1:=im hr;have hu64:=hr.units;exact(aT (dv 3 FO.nd (kj c_order_of_x (hr.mono (by decide)) (aQ (aO 0) (eR (v_ 2) cw))))
   sW)
abbrev qo:Stmt:=dE 28
abbrev uN:List Str:=["got"]
abbrev nh:List Str:=["got"]
theorem Gn:FnScope uN nh (aM qo):=dG
def AO:FS:=(seqF (retF [Md.bw] (fC (aP (gb 1 [0] (gC gM (aP (fC (aP (gv 0) aN) lenD) aN)) (cU 0) (fun _=>Res.ok true) (f2 (gv 1) (gv 0) dj)) aN) tupD)) bN)
def ko:List D->Res D:=fun ds=>bP false (AO (cO uN.length ds))
theorem M3(T:Txt K mg)(A:DefAt K mg "dealing_of" qo):Callee P w K mg base "dealing_of" nh [] 1 false [Md.bw] ko:=
 eZ (m':=[Md.bw]) A Gn fun f cdv A outer s H g E hr hu1=>(aT (c9 (oN (by rfl) T.b_tuple (dh (SO.toB (lZ (X:=(cX dN P w K mg base uN "dealing_of" (aM qo) f cdv A outer s H E).nox) (N':=["hand","got"]) (nl:=1) (cap:=[0]) Gn.nd rfl (iX (osc:=(aM qo)) (ON:=uN) rfl rfl (by decide+kernel)) (jW.toC (qa (by rfl) T.b_range (dh (bE (hJ (by rfl) T.b_len (dh (aO 0) dA))) dA))) (fun _ _ _ _ _ _=>(eB 0 (show RC (["hand","got"]:List Str)by decide+kernel))) (iA (by decide)) (fun _ _ _ _ _ _=>mU) (fun _ _ _ _ _ _=>(g9 hu1 (aO 1) (aO 0))))) dA)))
   bO)
abbrev tz:Stmt:=dE 34
abbrev Fp:List Str:=["wishes","owns","order","got","rings"]
abbrev tH:List Str:=["wishes","owns","order"]
theorem pr:FnScope Fp tH (aM tz):=dG
abbrev Gc:FS:=(seqF (eG "dict" gN 3 (aP (bX (aP (gv 4) aN) [] hW) aN) updD) bN)
def qh:FS:=(seqF (aV lB 3 (fun _=>Res.ok (D.dic []))) (seqF (g6 gN (df dY (bX (aP (gv 0) (aP (gv 1) (aP (gv 2) aN))) [] p0)) (cU 4) Gc) (seqF (retF gN (bX (aP (gv 3) aN) [] ko)) bN)))
def nk:List D->Res D:=fun ds=>bP false (qh (cO Fp.length ds))
theorem K4(T:Txt K mg)(A:DefAtD K mg "by_rings" tz [Value.none])(c_rounds:Callee P w K mg base "rounds" sP [] 7 false fW p0)(c_got_in:Callee P w K mg base "got_in" kl [] 1 false [Md.bw] hW)(c_dealing_of:Callee P w K mg base "dealing_of" nh [] 1 false [Md.bw] ko):Callee P w K mg base "by_rings" tH [] 8 false dB nk:=by
 refine m6 (ds:=[]) (k:=7) (fs:=qh) (m':=gN) A pr rfl 3 rfl (fun _ _ _ _ _ _ _ us hl=>by obtain⟨u0,u1,u2,rfl⟩:=lN us hl;exact⟨_,rfl,rfl⟩) fun f cdv A outer s H g E hr=>?_;have hu1:=im hr;have hu64:=hr.units;exact(aT (io 3 pr.nd (by rfl) (gP rfl) mQ)
   (aT (mG QS rfl (rS (cZ c_rounds (aQ (aO 0) (aQ (aO 1) (aQ (aO 2) cw))))) (eB 4 pr.nd) (aT (jE 3 rfl Sx Sl Tp zM xF (by rfl) (gm rfl) (cz (cZ c_got_in (aQ (aO 4) cw)) di))
   bO))
   (aT (c9 (cZ c_dealing_of (aQ (aO 3) cw)))
   bO)))
theorem Ln(T:Txt K mg)(A:DefAtD K mg "by_rings" tz [Value.none])(c_rounds:Callee P w K mg base "rounds" sP [] 7 false fW p0)(c_got_in:Callee P w K mg base "got_in" kl [] 1 false [Md.bw] hW)(c_dealing_of:Callee P w K mg base "dealing_of" nh [] 1 false [Md.bw] ko):Callee P w K mg base "by_rings" tH [Value.none] 8 false dB nk:=by
 refine m6 (ds:=[Value.none]) (k:=7) (fs:=qh) (m':=gN) A pr rfl 2 rfl (fun _ _ _ _ _ _ _ us hl=>by obtain⟨u0,u1,rfl⟩:=pN us hl;exact⟨_,rfl,rfl⟩) fun f cdv A outer s H g E hr=>?_;have hu1:=im hr;have hu64:=hr.units;exact(aT (io 3 pr.nd (by rfl) (gP rfl) mQ)
   (aT (mG QS rfl (rS (cZ c_rounds (aQ (aO 0) (aQ (aO 1) (aQ (aO 2) cw))))) (eB 4 pr.nd) (aT (jE 3 rfl Sx Sl Tp zM xF (by rfl) (gm rfl) (cz (cZ c_got_in (aQ (aO 4) cw)) di))
   bO))
   (aT (c9 (cZ c_dealing_of (aQ (aO 3) cw)))
   bO)))
abbrev Av:Stmt:=dE 34
abbrev F7:List Str:=["wishes","owns","order","got","rings"]
abbrev AH:List Str:=["wishes","owns","order"]
theorem AD:FnScope F7 AH (aM Av):=dG
abbrev PQ:FS:=(seqF (eG "dict" gN 3 (aP (bX (aP (gv 4) aN) [] hW) aN) updD) bN)
def uK:FS:=(seqF (aV lB 3 (fun _=>Res.ok (D.dic []))) (seqF (sv gN (df dY (gZ (aP (gv 0) (aP (gv 1) (aP (gv 2) aN))) [] o8)) (cU 4) PQ) (fun _=>Out.stuck)))
def uM:List D->Res D:=fun ds=>bP false (uK (cO F7.length ds))
theorem M0(T:Txt K mg)(A:DefAtD K mg "by_rings" Av [Value.none])(c_rounds_x:CalleeX P w K mg base "rounds" uC [] 7 false dB o8)(c_got_in:Callee P w K mg base "got_in" kl [] 1 false [Md.bw] hW):CalleeX P w K mg base "by_rings" AH [] 8 false dB uM:=by
 refine qc (k:=7) (fs:=uK) (m':=gN) A AD rfl (fun _ _ _ _ _ _ _ us hl=>by obtain⟨u0,u1,u2,rfl⟩:=lN us hl;exact⟨_,rfl,rfl⟩) fun f cdv A outer s H g E hr=>?_;have hu1:=im hr;have hu64:=hr.units;exact(aT (io 3 AD.nd (by rfl) (gP rfl) mQ)
   (aT (Kj rfl (rS (kj c_rounds_x (hr.mono (by decide)) (aQ (aO 0) (aQ (aO 1) (eR (v_ 2) cw))))) (eB 4 AD.nd) (aT (jE 3 rfl Sx Sl Tp zM xF (by rfl) (gm rfl) (cz (cZ c_got_in (aQ (aO 4) cw)) di))
   bO))
   sW))
abbrev zD:Stmt:=dE 38
abbrev Fu:List Str:=["deed"]
abbrev o9:List Str:=["deed"]
theorem Pk:FnScope Fu o9 (aM zD):=dG
def Ab:FS:=(seqF (d8 [Md.bw] (bW (f2 (f2 (gv 0) (ci 0) dj) (fun _=>Res.ok (D.str "ahead")) eqD)) (seqF (retF [Md.bw] (iq aN)) bN) bN) (seqF (retF [Md.bw] (lE (bW (f2 (f2 (gv 0) (ci 0) dj) (fun _=>Res.ok (D.str "ring")) eqD)) (f2 (gv 0) (ci 1) dj) (iq (aP (jS (gv 0) (j6 (ci 1)) (fun _=>Res.ok none)) aN)))) bN))
def kY:List D->Res D:=fun ds=>bP false (Ab (cO Fu.length ds))
theorem K8(T:Txt K mg)(A:DefAt K mg "pairs_of" zD):Callee P w K mg base "pairs_of" o9 [] 1 false [Md.bw] kY:=
 eZ (m':=[Md.bw]) A Pk fun f cdv A outer s H g E hr hu1=>have hu64:=hr.units;(aT (de (eF hu64 (xB hu1 (aO 0) iB) (bE lQ)) (aT (c9 (j8 di))
   bO)
   bO)
   (aT (c9 (wI (eF hu64 (xB hu1 (aO 0) iB) (bE lQ)) (g9 hu1 (aO 0) iB) (j8 (cz (mI (aO 0) (mS iB) mR) di))))
   bO))
abbrev Ah:Stmt:=dE 26
abbrev F4:List Str:=["hands"]
abbrev AB:List Str:=["hands"]
theorem P6:FnScope F4 AB (aM Ah):=dG
def AN:FS:=(seqF (retF [Md.bw] (f2 (jS (gv 0) (j6 (ci 1)) (fun _=>Res.ok none)) (jS (gv 0) (fun _=>Res.ok none) (j6 (ci 1))) addE)) bN)
def uG:List D->Res D:=fun ds=>bP false (AN (cO F4.length ds))
theorem NW(T:Txt K mg)(A:DefAt K mg "ones_behind" Ah):Callee P w K mg base "ones_behind" AB [] 1 false [Md.bw] uG:=
 eZ (m':=[Md.bw]) A P6 fun f cdv A outer s H g E hr hu1=>(aT (c9 (C5 (bE (mI (aO 0) (mS iB) mR)) (bE (mI (aO 0) mR (mS iB)))))
   bO)
abbrev qy:Stmt:=dE 36
abbrev uX:List Str:=["owns","askers","turn","hands"]
abbrev AU:List Str:=["owns","askers"]
theorem uY:FnScope uX AU (aM qy):=dG
def AS:FS:=(seqF (aV d7 2 (fM "list" (gv 1) (aP (fC (aP (gv 1) aN) om) aN) sE)) (seqF (aV d7 3 (f2 (jS (gv 1) (j6 (gv 2)) (fun _=>Res.ok none)) (jS (gv 1) (fun _=>Res.ok none) (j6 (gv 2))) addE)) (seqF (retF d7 (fC (aP (gb 2 [0] (lD (gv 3) (bX (aP (gv 3) aN) [] uG)) (ir (eJ (cU 0) (eJ (cU 1) il))) (fun _=>Res.ok true) (iq (aP (gv 0) (aP (f2 (gv 2) (gv 1) dj) aN)))) aN) tupD)) bN)))
def uV:List D->Res D:=fun ds=>bP false (AS (cO uX.length ds))
theorem O3(T:Txt K mg)(A:DefAt K mg "ring_of_askers" qy)(c_ones_behind:Callee P w K mg base "ones_behind" AB [] 1 false [Md.bw] uG):Callee P w K mg base "ring_of_askers" AU [] 2 false q0 uV:=
 eZ (m':=d7) A uY fun f cdv A outer s H g E hr hu1=>(aT (dv 2 uY.nd (qW QN TB U4 Fd EY (aO 1) (dh (bE (Kl rfl (by rfl) T.b_min (dh (aO 1) dA))) dA)))
   (aT (dv 3 uY.nd (C5 (bE (mI (aO 1) (mS (aO 2)) mR)) (bE (mI (aO 1) mR (mS (aO 2))))))
   (aT (c9 (oN (by rfl) T.b_tuple (dh (SO.toB (lZ (X:=(cX dN P w K mg base uX "ring_of_askers" (aM qy) f cdv A outer s H E).nox) (N':=["hand","behind","owns"]) (nl:=2) (cap:=[0]) uY.nd rfl (iX (osc:=(aM qy)) (ON:=uX) rfl rfl (by decide+kernel)) (jW.toC (Hz (by rfl) T.b_zip (v_ 3) (cZ c_ones_behind (aQ (aO 3) cw)))) (fun _ _ _ _ _ _=>(rQ rfl (lV (eB 0 (show RC (["hand","behind","owns"]:List Str)by decide+kernel)) (lV (eB 1 (show RC (["hand","behind","owns"]:List Str)by decide+kernel)) rP)))) (Ir (EX (iA (by decide)) (EX (iA (by decide)) Me))) (fun _ _ _ _ _ _=>mU) (fun _ _ _ _ _ _=>(j8 (cz (v_ 0) (cz (g9 hu1 (aO 2) (aO 1)) di)))))) dA)))
   bO)))
abbrev zW:Stmt:=dE 37
abbrev Fk:List Str:=["wishes","owns","line","things","askers","hand","thing","owner"]
abbrev Ap:List Str:=["wishes","owns","line","things","askers"]
theorem uS:FnScope Fk Ap (aM zW):=dG
def nq:FS:=(seqF (aV eO 5 (f2 (gv 4) (f1 (ci 1) jP) dj)) (seqF (aV eO 6 (bX (aP (f2 (gv 0) (gv 5) dj) (aP (gv 3) aN)) [] me)) (seqF (aV eO 7 (bX (aP (gv 1) (aP (gv 2) (aP (gv 6) aN))) [] ng)) (seqF (d8 eO (iQ (bW (f2 (gv 7) (fun _=>Res.ok D.non) jR)) (bW (f2 (gv 7) (gv 5) eqD))) (seqF (retF eO (iq (aP (fun _=>Res.ok (D.str "takes")) (aP (gv 5) (aP (gv 6) aN))))) bN) bN) (seqF (d8 eO (bW (f2 (gv 7) (gv 4) fj)) (seqF (retF eO (iq (aP (fun _=>Res.ok (D.str "ahead")) (aP (gv 7) (aP (gv 6) aN))))) bN) bN) (seqF (retF eO (iq (aP (fun _=>Res.ok (D.str "ring")) (aP (bX (aP (gv 1) (aP (jS (gv 4) (j6 (fM "list" (gv 4) (aP (gv 7) aN) sE)) (fun _=>Res.ok none)) aN)) [] uV) aN)))) bN))))))
def kn:List D->Res D:=fun ds=>bP false (nq (cO Fk.length ds))
theorem Lp(T:Txt K mg)(A:DefAt K mg "next_deed" zW)(c_best_left:Callee P w K mg base "best_left" tV [] 1 false q0 me)(c_owner_left:Callee P w K mg base "owner_left" uP [] 1 false fW ng)(c_ring_of_askers:Callee P w K mg base "ring_of_askers" AU [] 2 false q0 uV):Callee P w K mg base "next_deed" Ap [] 3 false [.bw,.bw,.bw,.bw,.bw] kn:=
 eZ (m':=eO) A uS fun f cdv A outer s H g E hr hu1=>have hu64:=hr.units;(aT (dv 5 uS.nd (g9 hu1 (aO 4) (bE (Cr iB))))
   (aT (dv 6 uS.nd (cZ c_best_left (aQ (xB hu1 (aO 0) (aO 5)) (aQ (aO 3) cw))))
   (aT (dv 7 uS.nd (cZ c_owner_left (aQ (aO 1) (aQ (aO 2) (aQ (aO 6) cw)))))
   (aT (de (SW.toQ (ja (lw (aO 7) (bE jF)) (pL (eF hu64 (aO 7) (aO 5))))) (aT (c9 (j8 (cz lQ (cz (v_ 5) (cz (v_ 6) di)))))
   bO)
   bO)
   (aT (de (n5 hu1 (aO 7) (aO 4)) (aT (c9 (j8 (cz lQ (cz (v_ 7) (cz (v_ 6) di)))))
   bO)
   bO)
   (aT (c9 (j8 (cz lQ (cz (cZ c_ring_of_askers (aQ (aO 1) (aQ (bE (mI (aO 4) (mS (bE (qW QN TB U4 Fd EY (aO 4) (dh (aO 7) dA)))) mR)) cw))) di))))
   bO))))))
abbrev kU:Stmt:=dE 39
abbrev l8:List Str:=["wishes","owns","order","line","things","askers","told","deed","got","taken"]
abbrev sM:List Str:=["wishes","owns","order"]
theorem jy:FnScope l8 sM (aM kU):=dG
abbrev EK:FQ:=(eU (gv 3))
abbrev yS:FS:=(seqF (d8 fG (fB (eU (gv 5))) (seqF (aV fG 5 (fq (aP (f2 (gv 3) (ci 0) dj) aN))) bN) bN) (seqF (aV fG 7 (bX (aP (gv 0) (aP (gv 1) (aP (gv 3) (aP (gv 4) (aP (gv 5) aN))))) [] kn)) (seqF (eG "list" fG 6 (aP (gv 7) aN) appD) (seqF (d8 fG (bW (f2 (f2 (gv 7) (ci 0) dj) (fun _=>Res.ok (D.str "ahead")) eqD)) (seqF (eG "list" fG 5 (aP (f2 (gv 7) (ci 1) dj) aN) appD) bN) bN) (seqF (aV fG 8 (bX (aP (fq (aP (bX (aP (gv 7) aN) [] kY) aN)) aN) [] hW)) (seqF (aV fG 9 (f1 (gv 8) sm)) (seqF (aV fG 3 (gb 1 [8] (df dY (gv 3)) (cU 0) (bW (f2 (gv 0) (gv 1) fj)) (gv 0))) (seqF (aV lA 5 (gb 1 [8] (df dY (gv 5)) (cU 0) (bW (f2 (gv 0) (gv 1) fj)) (gv 0))) (seqF (aV lA 4 (gb 1 [9] (df dY (gv 4)) (cU 0) (bW (f2 (gv 0) (gv 1) fj)) (gv 0))) bN)))))))))
def sL:FS:=(seqF (aV nL 3 (bX (aP (gv 0) (aP (gv 2) aN)) [] mh)) (seqF (aV nL 4 (fC (aP (bX (aP (gv 0) aN) [] lc) aN) lO)) (seqF (aV nL 5 (fq aN)) (seqF (aV nI 6 (fq aN)) (seqF (hV fG EK yS 64) (seqF (retF nI (gv 6)) bN))))))
def pW:List D->Res D:=fun ds=>bP false (sL (cO l8.length ds))
theorem IF(T:Txt K mg)(A:DefAtD K mg "asked" kU [Value.none])(c_order_of:Callee P w K mg base "order_of" tJ [] 6 false q0 mh)(c_things_in:Callee P w K mg base "things_in" qv [] 1 false [Md.bw] lc)(c_next_deed:Callee P w K mg base "next_deed" Ap [] 3 false [.bw,.bw,.bw,.bw,.bw] kn)(c_pairs_of:Callee P w K mg base "pairs_of" o9 [] 1 false [Md.bw] kY)(c_got_in:Callee P w K mg base "got_in" kl [] 1 false [Md.bw] hW):Callee P w K mg base "asked" sM [] 7 false fW pW:=by
 refine m6 (ds:=[]) (k:=6) (fs:=sL) (m':=nI) A jy rfl 3 rfl (fun _ _ _ _ _ _ _ us hl=>by obtain⟨u0,u1,u2,rfl⟩:=lN us hl;exact⟨_,rfl,rfl⟩) fun f cdv A outer s H g E hr=>?_;have hu1:=im hr;have hu64:=hr.units;exact(aT (dv 3 jy.nd (cZ c_order_of (aQ (aO 0) (aQ (aO 2) cw))))
   (aT (dv 4 jy.nd (SO.toE (sH rfl (by rfl) T.b_list (by rfl) T.b_range (dh (bE (cZ c_things_in (aQ (aO 0) cw))) dA))))
   (aT (io 5 jy.nd (by rfl) (gP rfl) (fR di))
   (aT (io 6 jy.nd (by rfl) (gP rfl) (fR di))
   (aT (xQ 64 QS (lT (aO 3)) (tN (m':=[.bw,.bw,.bw,.sh,.ow,.ow,.ow,.sh,.sh,.sh]) 4 (tN (m':=[.bw,.bw,.bw,.ow,.ow,.ow,.ow,.sh,.sh,.sh]) 3 (aT (de (mK (lT (aO 5))) (aT (io 5 jy.nd (by rfl) (gP rfl) (fR (cz (g9 hu1 (aO 3) iB) di)))
   bO)
   bO)
   (aT (dv 7 jy.nd (cZ c_next_deed (aQ (aO 0) (aQ (aO 1) (aQ (aO 3) (aQ (aO 4) (aQ (aO 5) cw)))))))
   (aT (jE 6 rfl QN Q9 Q_ l9 mW (by rfl) (gm rfl) (cz (v_ 7) di))
   (aT (de (eF hu64 (xB hu1 (aO 7) iB) (bE lQ)) (aT (jE 5 rfl QN Q9 Q_ l9 mW (by rfl) (gm rfl) (cz (g9 hu1 (aO 7) iB) di))
   bO)
   bO)
   (aT (dv 8 jy.nd (cZ c_got_in (aQ (SO.toB (fR (cz (cZ c_pairs_of (aQ (aO 7) cw)) di))) cw)))
   (aT (dv 9 jy.nd (SO.toE (CJ rfl (by rfl) T.b_list (aO 8))))
   (aT (ph 3 (X:=(cX dN P w K mg base l8 "asked" (aM kU) f cdv A outer s H E).nox) (m:=fG) (N':=["hand","got"]) (nl:=1) (cap:=[8]) jy.nd rfl (by rfl) (by rfl) (iX (osc:=(aM kU)) (ON:=l8) rfl rfl (by decide+kernel)) (ju (aO 3)) (fun _ _ _ _ _ _=>(eB 0 (show RC (["hand","got"]:List Str)by decide+kernel))) (iA (by decide)) (fun _ _ _ _ _ _=>(mV (n5 hu1 (aO 0) (aO 1)))) (fun _ _ _ _ _ _=>(v_ 0)))
   (aT (ph 5 (X:=(cX dN P w K mg base l8 "asked" (aM kU) f cdv A outer s H E).nox) (m:=lA) (N':=["hand","got"]) (nl:=1) (cap:=[8]) jy.nd rfl (by rfl) (by rfl) (iX (osc:=(aM kU)) (ON:=l8) rfl rfl (by decide+kernel)) (ju (aO 5)) (fun _ _ _ _ _ _=>(eB 0 (show RC (["hand","got"]:List Str)by decide+kernel))) (iA (by decide)) (fun _ _ _ _ _ _=>(mV (n5 hu1 (aO 0) (aO 1)))) (fun _ _ _ _ _ _=>(v_ 0)))
   (aT (ph 4 (X:=(cX dN P w K mg base l8 "asked" (aM kU) f cdv A outer s H E).nox) (m:=lA) (N':=["thing","taken"]) (nl:=1) (cap:=[9]) jy.nd rfl (by rfl) (by rfl) (iX (osc:=(aM kU)) (ON:=l8) rfl rfl (by decide+kernel)) (ju (aO 4)) (fun _ _ _ _ _ _=>(eB 0 (show RC (["thing","taken"]:List Str)by decide+kernel))) (iA (by decide)) (fun _ _ _ _ _ _=>(mV (n5 hu1 (aO 0) (aO 1)))) (fun _ _ _ _ _ _=>(v_ 0)))
   bO))))))))) rfl) rfl))
   (aT (pM 6 rfl (c9 (v_ 6)))
   bO))))))
abbrev yU:Stmt:=dE 39
abbrev E3:List Str:=["wishes","owns","order","line","things","askers","told","deed","got","taken"]
abbrev tt:List Str:=["wishes","owns","order"]
theorem FH:FnScope E3 tt (aM yU):=dG
def yQ:FS:=(seqF (aV ra 3 (gZ (aP (gv 0) (aP (gv 2) aN)) [] jz)) (fun _=>Out.stuck))
def oX:List D->Res D:=fun ds=>bP false (yQ (cO E3.length ds))
theorem JF(T:Txt K mg)(A:DefAtD K mg "asked" yU [Value.none])(c_order_of_x:CalleeX P w K mg base "order_of" uO [] 6 false dU jz):CalleeX P w K mg base "asked" tt [] 7 false dB oX:=by
 refine qc (k:=6) (fs:=yQ) (m':=ra) A FH rfl (fun _ _ _ _ _ _ _ us hl=>by obtain⟨u0,u1,u2,rfl⟩:=lN us hl;exact⟨_,rfl,rfl⟩) fun f cdv A outer s H g E hr=>?_;have hu1:=im hr;have hu64:=hr.units;exact(aT (dv 3 FH.nd (kj c_order_of_x (hr.mono (by decide)) (aQ (aO 0) (eR (v_ 2) cw))))
   sW)
abbrev mq:Stmt:=dE 40
abbrev pq:List Str:=["wishes","owns","order"]
abbrev tW:List Str:=["wishes","owns","order"]
theorem uR:FnScope pq tW (aM mq):=dG
def qu:FS:=(seqF (retF dB (bX (aP (bX (aP (gb 1 [] (df dY (bX (aP (gv 0) (aP (gv 1) (aP (gv 2) aN))) [] pW)) (cU 0) (fun _=>Res.ok true) (bX (aP (gv 0) aN) [] kY)) aN) [] hW) aN) [] ko)) bN)
def nr:List D->Res D:=fun ds=>bP false (qu (cO pq.length ds))
theorem Lm(T:Txt K mg)(A:DefAtD K mg "by_asking" mq [Value.none])(c_asked:Callee P w K mg base "asked" sM [] 7 false fW pW)(c_pairs_of:Callee P w K mg base "pairs_of" o9 [] 1 false [Md.bw] kY)(c_got_in:Callee P w K mg base "got_in" kl [] 1 false [Md.bw] hW)(c_dealing_of:Callee P w K mg base "dealing_of" nh [] 1 false [Md.bw] ko):Callee P w K mg base "by_asking" tW [] 8 false dB nr:=by
 refine m6 (ds:=[]) (k:=7) (fs:=qu) (m':=dB) A uR rfl 3 rfl (fun _ _ _ _ _ _ _ us hl=>by obtain⟨u0,u1,u2,rfl⟩:=lN us hl;exact⟨_,rfl,rfl⟩) fun f cdv A outer s H g E hr=>?_;have hu1:=im hr;have hu64:=hr.units;exact(aT (c9 (cZ c_dealing_of (aQ (bE (cZ c_got_in (aQ (SO.toB (lZ (X:=(cX dN P w K mg base pq "by_asking" (aM mq) f cdv A outer s H E).nox) (N':=["deed"]) (nl:=1) (cap:=[]) uR.nd rfl (iX (osc:=(aM mq)) (ON:=pq) rfl rfl (by decide+kernel)) (ju (bE (cZ c_asked (aQ (aO 0) (aQ (aO 1) (aQ (aO 2) cw)))))) (fun _ _ _ _ _ _=>(eB 0 (show RC (["deed"]:List Str)by decide+kernel))) (iA (by decide)) (fun _ _ _ _ _ _=>mU) (fun _ _ _ _ _ _=>(cZ c_pairs_of (aQ (aO 0) cw))))) cw))) cw)))
   bO)
theorem MZ(T:Txt K mg)(A:DefAtD K mg "by_asking" mq [Value.none])(c_asked:Callee P w K mg base "asked" sM [] 7 false fW pW)(c_pairs_of:Callee P w K mg base "pairs_of" o9 [] 1 false [Md.bw] kY)(c_got_in:Callee P w K mg base "got_in" kl [] 1 false [Md.bw] hW)(c_dealing_of:Callee P w K mg base "dealing_of" nh [] 1 false [Md.bw] ko):Callee P w K mg base "by_asking" tW [Value.none] 8 false dB nr:=by
 refine m6 (ds:=[Value.none]) (k:=7) (fs:=qu) (m':=dB) A uR rfl 2 rfl (fun _ _ _ _ _ _ _ us hl=>by obtain⟨u0,u1,rfl⟩:=pN us hl;exact⟨_,rfl,rfl⟩) fun f cdv A outer s H g E hr=>?_;have hu1:=im hr;have hu64:=hr.units;exact(aT (c9 (cZ c_dealing_of (aQ (bE (cZ c_got_in (aQ (SO.toB (lZ (X:=(cX dN P w K mg base pq "by_asking" (aM mq) f cdv A outer s H E).nox) (N':=["deed"]) (nl:=1) (cap:=[]) uR.nd rfl (iX (osc:=(aM mq)) (ON:=pq) rfl rfl (by decide+kernel)) (ju (bE (cZ c_asked (aQ (aO 0) (aQ (aO 1) (aQ (aO 2) cw)))))) (fun _ _ _ _ _ _=>(eB 0 (show RC (["deed"]:List Str)by decide+kernel))) (iA (by decide)) (fun _ _ _ _ _ _=>mU) (fun _ _ _ _ _ _=>(cZ c_pairs_of (aQ (aO 0) cw))))) cw))) cw)))
   bO)
abbrev qO:Stmt:=dE 40
abbrev uI:List Str:=["wishes","owns","order"]
abbrev AA:List Str:=["wishes","owns","order"]
theorem Gm:FnScope uI AA (aM qO):=dG
def AM:FS:=(seqF (retF dB (bX (aP (bX (aP (gb 1 [] (df dY (gZ (aP (gv 0) (aP (gv 1) (aP (gv 2) aN))) [] oX)) (cU 0) (fun _=>Res.ok true) (bX (aP (gv 0) aN) [] kY)) aN) [] hW) aN) [] ko)) bN)
def uF:List D->Res D:=fun ds=>bP false (AM (cO uI.length ds))
theorem NU(T:Txt K mg)(A:DefAtD K mg "by_asking" qO [Value.none])(c_asked_x:CalleeX P w K mg base "asked" tt [] 7 false dB oX)(c_pairs_of:Callee P w K mg base "pairs_of" o9 [] 1 false [Md.bw] kY)(c_got_in:Callee P w K mg base "got_in" kl [] 1 false [Md.bw] hW)(c_dealing_of:Callee P w K mg base "dealing_of" nh [] 1 false [Md.bw] ko):CalleeX P w K mg base "by_asking" AA [] 8 false dB uF:=by
 refine qc (k:=7) (fs:=AM) (m':=dB) A Gm rfl (fun _ _ _ _ _ _ _ us hl=>by obtain⟨u0,u1,u2,rfl⟩:=lN us hl;exact⟨_,rfl,rfl⟩) fun f cdv A outer s H g E hr=>?_;have hu1:=im hr;have hu64:=hr.units;exact(aT (c9 (cZ c_dealing_of (aQ (bE (cZ c_got_in (aQ (SO.toB (lZ (X:=(cX (mz P w) P w K mg base uI "by_asking" (aM qO) f cdv A outer s H E)) (N':=["deed"]) (nl:=1) (cap:=[]) Gm.nd rfl (iX (osc:=(aM qO)) (ON:=uI) rfl rfl (by decide+kernel)) (ju (bE (kj c_asked_x (hr.mono (by decide)) (aQ (aO 0) (aQ (aO 1) (eR (v_ 2) cw)))))) (fun _ _ _ _ _ _=>(eB 0 (show RC (["deed"]:List Str)by decide+kernel))) (iA (by decide)) (fun _ _ _ _ _ _=>mU) (fun _ _ _ _ _ _=>(cZ c_pairs_of (aQ (aO 0) cw))))) cw))) cw)))
   bO)
abbrev yY:Stmt:=dE 66
abbrev Fm:List Str:=["_law_cell_here","_law_n","_law_order","_law_at_here","_law_some"]
abbrev Ad:List Str:=["_law_cell_here","_law_n"]
theorem tY:FnScope Fm Ad (aM yY):=dG
def zZ:FS:=(seqF (aV iG 2 (fC (aP (bX (aP (f2 (gv 0) (ci 7) iV) (aP (gv 1) aN)) [] nj) aN) kN)) (seqF (aV fF 3 (f2 (f2 (gv 0) (ci 5040) iV) (gv 1) cP)) (seqF (aV fF 4 (fq (aP (f1 (ci 1) jP) (aP (gv 1) (aP (fun _=>Res.ok (D.bl true)) (aP (fun _=>Res.ok (D.str "0")) (aP (fun _=>Res.ok D.non) (aP (f2 (ci 10) (ci 30) je) (aP (fun _=>Res.ok (D.bl false)) aN))))))))) (seqF (d8 fF (bW (f2 (f2 (gv 0) (ci 7) cP) (ci 0) eqD)) (seqF (retF fF (jS (gv 2) (fun _=>Res.ok none) (j6 (gv 3)))) bN) bN) (seqF (d8 fF (bW (f2 (f2 (gv 0) (ci 7) cP) (ci 1) eqD)) (seqF (retF fF (f2 (gv 2) (fq (aP (f2 (gv 2) (gv 3) dj) aN)) addA)) bN) bN) (seqF (d8 fF (bW (f2 (f2 (gv 0) (ci 7) cP) (ci 2) eqD)) (seqF (retF fF (f2 (gv 2) (fq (aP (f2 (gv 4) (f2 (f2 (gv 0) (ci 40320) iV) (ci 7) cP) dj) aN)) addA)) bN) bN) (seqF (d8 fF (fL (bW (f2 (f2 (gv 0) (ci 7) cP) (ci 3) eqD)) (bW (f2 (gv 1) (ci 1) kx))) (seqF (gO fF 2 (gv 3) (f2 (gv 2) (f2 (gv 3) (ci 1) lj) dj)) (seqF (retF iG (gv 2)) bN)) bN) (seqF (gO fF 2 (gv 3) (f2 (gv 4) (f2 (f2 (gv 0) (ci 40320) iV) (ci 7) cP) dj)) (seqF (retF iG (gv 2)) bN)))))))))
def tD:List D->Res D:=fun ds=>bP false (zZ (cO Fm.length ds))
theorem K2(T:Txt K mg)(A:DefAt K mg "_law_bad" yY)(c__law_row:Callee P w K mg base "_law_row" tF [] 1 false [.sh,.bw] nj):Callee P w K mg base "_law_bad" Ad [] 2 false dU tD:=
 eZ (m':=iG) A tY fun f cdv A outer s H g E hr hu1=>have hu64:=hr.units;(aT (io 2 tY.nd (by rfl) (gP rfl) (sx (by rfl) T.b_list (dh (bE (cZ c__law_row (eR (mL (aO 0) iB) (aQ (aO 1) cw)))) dA)))
   (aT (dv 3 tY.nd (gT (bE (mL (aO 0) iB)) (aO 1)))
   (aT (dv 4 tY.nd (SO.toE (fR (cz (Cr iB) (cz (v_ 1) (cz d6 (cz lQ (cz jF (cz (Ct iB iB) (cz d6 di))))))))))
   (aT (de (eF hu64 (bE (gT (aO 0) iB)) iB) (aT (c9 (mI (aO 2) mR (mS (aO 3))))
   bO)
   bO)
   (aT (de (eF hu64 (bE (gT (aO 0) iB)) iB) (aT (c9 (gG (aO 2) (SO.toB (fR (cz (g9 hu1 (aO 2) (aO 3)) di)))))
   bO)
   bO)
   (aT (de (eF hu64 (bE (gT (aO 0) iB)) iB) (aT (c9 (gG (aO 2) (SO.toB (fR (cz (g9 hu1 (aO 4) (bE (gT (bE (mL (aO 0) iB)) iB))) di)))))
   bO)
   bO)
   (aT (de (SW.toQ (rY (eF hu64 (bE (gT (aO 0) iB)) iB) (sB (lz (aO 1) iB)))) (Lz (m2:=fF) (aT (n6 2 hu1 rfl (by rfl) (gm rfl) (aO 3) (g9 hu1 (aO 2) (bE (Cu (aO 3) iB))))
   (aT (pM 2 rfl (c9 (v_ 2)))
   bO)) (Nw (Nv K0)) rfl)
   bO)
   (aT (n6 2 hu1 rfl (by rfl) (gm rfl) (aO 3) (g9 hu1 (aO 4) (bE (gT (bE (mL (aO 0) iB)) iB))))
   (aT (pM 2 rfl (c9 (v_ 2)))
   bO)))))))))
abbrev At:Stmt:=dE 64
abbrev Gd:List Str:=["_law_found"]
abbrev AF:List Str:=["_law_found"]
theorem P7:FnScope Gd AF (aM At):=dG
def Pm:FS:=(seqF (retF [Md.bw] (gq (f1 (gv 0) (jg "int")) (lh (f1 (gv 0) (jg "bool"))))) bN)
def AR:List D->Res D:=fun ds=>bP false (Pm (cO Gd.length ds))
theorem MX(T:Txt K mg)(A:DefAt K mg "_law_whole" At):Callee P w K mg base "_law_whole" AF [] 1 false [Md.bw] AR:=
 eZ (m':=[Md.bw]) A P7 fun f cdv A outer s H g E hr hu1=>(aT (c9 (sd (se "int" "int" rfl (DW _) (by rfl) T.b_isinstance (by rfl) T.b_int (aO 0)) (sf (Cs (se "bool" "bool" rfl (Ek _) (by rfl) T.b_isinstance (by rfl) T.b_bool (aO 0))))))
   bO)
abbrev yT:Stmt:=dE 67
abbrev E2:List Str:=["_law_order","_law_n","_law_seen","_law_place","_law_hand"]
abbrev zN:List Str:=["_law_order","_law_n"]
theorem uD:FnScope E2 zN (aM yT):=dG
abbrev nc:FS:=(seqF (d8 fH (iQ (fB (eU (bX (aP (gv 4) aN) [] AR))) (iQ (fB (bW (kd (ci 0) (gv 4) (gv 1) rA ku))) (bW (f2 (gv 4) (gv 2) iN)))) (seqF (retF fH (gv 3)) bN) bN) (seqF (eG "list" fH 2 (aP (gv 4) aN) appD) bN))
def yP:FS:=(seqF (aV lB 2 (fq aN)) (seqF (g6 fH (jT (gv 0)) (ir (eJ (cU 3) (eJ (cU 4) il))) nc) (seqF (retF fH (fC (aP (gv 0) aN) lenD)) bN)))
def tj:List D->Res D:=fun ds=>bP false (yP (cO E2.length ds))
theorem JE(T:Txt K mg)(A:DefAt K mg "_law_at" yT)(c__law_whole:Callee P w K mg base "_law_whole" AF [] 1 false [Md.bw] AR):Callee P w K mg base "_law_at" zN [] 2 false q0 tj:=
 eZ (m':=fH) A uD fun f cdv A outer s H g E hr hu1=>(aT (io 2 uD.nd (by rfl) (gP rfl) (fR di))
   (aT (ss QS rfl (Dc (by rfl) T.b_enumerate (vJ 0)) (rQ rfl (lV (eB 3 uD.nd) (lV (eB 4 uD.nd) rP))) (aT (de (SW.toQ (ja (mK (lT (bE (cZ c__law_whole (aQ (aO 4) cw))))) (ja (mK (MC Ca vW Cg B8 iB (aO 4) (aO 1))) (pL (lx hu1 (aO 4) (aO 2)))))) (aT (c9 (v_ 3))
   bO)
   bO)
   (aT (jE 2 rfl QN Q9 Q_ l9 mW (by rfl) (gm rfl) (cz (v_ 4) di))
   bO)))
   (aT (c9 (hJ (by rfl) T.b_len (dh (aO 0) dA)))
   bO)))
abbrev zV:Stmt:=dE 20
abbrev Fj:List Str:=["wishes"]
abbrev Ao:List Str:=["wishes"]
theorem PC:FnScope Fj Ao (aM zV):=dG
def Ak:FS:=(seqF (retF [Md.bw] (f2 (bX (aP (gv 0) aN) [] lc) (fC (aP (gv 0) aN) lenD) eqD)) bN)
def pk:List D->Res D:=fun ds=>bP false (Ak (cO Fj.length ds))
theorem Lo(T:Txt K mg)(A:DefAt K mg "is_square" zV)(c_things_in:Callee P w K mg base "things_in" qv [] 1 false [Md.bw] lc):Callee P w K mg base "is_square" Ao [] 2 false [Md.bw] pk:=
 eZ (m':=[Md.bw]) A PC fun f cdv A outer s H g E hr hu1=>have hu64:=hr.units;(aT (c9 (lq hu64 (bE (cZ c_things_in (aQ (aO 0) cw))) (bE (hJ (by rfl) T.b_len (dh (aO 0) dA)))))
   bO)
abbrev AZ:Stmt:=dE 21
abbrev Gv:List Str:=["wishes"]
abbrev A8:List Str:=["wishes"]
theorem Qk:FnScope Gv A8 (aM AZ):=dG
def A7:FS:=(seqF (d8 [Md.bw] (fB (eU (bX (aP (gv 0) aN) [] pk))) (seqF (lv [Md.bw] "NotSquare" (aP (fun _=>Res.ok (D.str "there must be as many things as hands")) aN)) bN) bN) bN)
def vI:List D->Res D:=fun ds=>bP false (A7 (cO Gv.length ds))
theorem PZ(T:Txt K mg)(A:DefAt K mg "refuse_unless_square" AZ)(c_is_square:Callee P w K mg base "is_square" Ao [] 2 false [Md.bw] pk){C_NotSquare:Addr}(xc_NotSquare:XC K mg "NotSquare" C_NotSquare)(xn_NotSquare:XN K "NotSquare" C_NotSquare):CalleeX P w K mg base "refuse_unless_square" A8 [] 3 false [Md.bw] vI:=by
 refine DI (k:=2) (fs:=A7) (m':=[Md.bw]) A Qk rfl (fun _ _ _ _ _ _ us hl=>by obtain⟨u0,rfl⟩:=wA us hl;kernel_rfl) fun f cdv A outer s H g E hr=>?_;have hu1:=im hr;have hu64:=hr.units;exact(aT (de (mK (lT (bE (cZ c_is_square (aQ (aO 0) cw))))) (aT (Lw rfl xc_NotSquare xn_NotSquare (by rfl) (cz lQ di))
   bO)
   bO)
   bO)
abbrev yV:Stmt:=dE 58
abbrev E4:List Str:=["wishes","meals","table"]
abbrev zO:List Str:=["wishes"]
theorem OF:FnScope E4 zO (aM yV):=dG
def yR:FS:=(seqF (kM jb (gZ (aP (gv 0) aN) [] vI)) (fun _=>Out.stuck))
def tm:List D->Res D:=fun ds=>bP false (yR (cO E4.length ds))
theorem JG(T:Txt K mg)(A:DefAt K mg "eaten" yV)(c_refuse_unless_square_x:CalleeX P w K mg base "refuse_unless_square" A8 [] 3 false [Md.bw] vI):CalleeX P w K mg base "eaten" zO [] 4 false [Md.bw] tm:=by
 refine DI (k:=3) (fs:=yR) (m':=jb) A OF rfl (fun _ _ _ _ _ _ us hl=>by obtain⟨u0,rfl⟩:=wA us hl;kernel_rfl) fun f cdv A outer s H g E hr=>?_;have hu1:=im hr;have hu64:=hr.units;exact(aT (ox (kj c_refuse_unless_square_x (hr.mono (by decide)) (aQ (aO 0) cw)))
   sW)
abbrev AI:Stmt:=dE 65
abbrev Ge:List Str:=["_law_e","_law_some"]
abbrev vE:List Str:=["_law_e"]
theorem vA:FnScope Ge vE (aM AI):=dG
def vC:FS:=(seqF (aV dU 1 (fq (aP (f1 (gv 0) (cS oW)) (aP (f1 (gv 0) (cS pc)) (aP (f1 (gv 0) (cS pv)) (aP (f1 (gv 0) (cS oZ)) aN)))))) (seqF (aV dU 1 (f2 (gv 1) (fq (aP (f1 (gv 0) (cS o6)) (aP (f1 (gv 0) (cS oS)) (aP (f1 (gv 0) (cS oR)) (aP (f1 (gv 0) (cS pe)) aN))))) addA)) (seqF (aV dU 1 (f2 (gv 1) (fq (aP (f1 (gv 0) (cS oU)) (aP (f1 (gv 0) (cS o7)) (aP (f1 (gv 0) (cS oV)) aN)))) addA)) (seqF (retF dU (f2 (gv 1) (fq (aP (f1 (gv 0) (cS pi)) (aP (f1 (gv 0) (cS pj)) aN))) addA)) bN))))
def mn:List D->Res D:=fun ds=>bP false (vC (cO Ge.length ds))
theorem Og(T:Txt K mg)(A:DefAt K mg "_law_flags" AI){C_NoDeed:Addr}(xb_NoDeed:mg "NoDeed" = some (.ref C_NoDeed))(ix_NoDeed:IsxOk K (.ref C_NoDeed) oZ){C_NoFraction:Addr}(xb_NoFraction:mg "NoFraction" = some (.ref C_NoFraction))(ix_NoFraction:IsxOk K (.ref C_NoFraction) pv){C_NotSquare:Addr}(xb_NotSquare:mg "NotSquare" = some (.ref C_NotSquare))(ix_NotSquare:IsxOk K (.ref C_NotSquare) pc){C_TooMany:Addr}(xb_TooMany:mg "TooMany" = some (.ref C_TooMany))(ix_TooMany:IsxOk K (.ref C_TooMany) oW){C_NotOwned:Addr}(xb_NotOwned:mg "NotOwned" = some (.ref C_NotOwned))(ix_NotOwned:IsxOk K (.ref C_NotOwned) pe){C_NoOwn:Addr}(xb_NoOwn:mg "NoOwn" = some (.ref C_NoOwn))(ix_NoOwn:IsxOk K (.ref C_NoOwn) oR){C_NoRow:Addr}(xb_NoRow:mg "NoRow" = some (.ref C_NoRow))(ix_NoRow:IsxOk K (.ref C_NoRow) oS){C_NoLine:Addr}(xb_NoLine:mg "NoLine" = some (.ref C_NoLine))(ix_NoLine:IsxOk K (.ref C_NoLine) o6){C_NoTable:Addr}(xb_NoTable:mg "NoTable" = some (.ref C_NoTable))(ix_NoTable:IsxOk K (.ref C_NoTable) oV){C_NoText:Addr}(xb_NoText:mg "NoText" = some (.ref C_NoText))(ix_NoText:IsxOk K (.ref C_NoText) o7){C_NoOrder:Addr}(xb_NoOrder:mg "NoOrder" = some (.ref C_NoOrder))(ix_NoOrder:IsxOk K (.ref C_NoOrder) oU)(ix_ValueError:IsxOk K (.type "ValueError") pj){C_TradeError:Addr}(xb_TradeError:mg "TradeError" = some (.ref C_TradeError))(ix_TradeError:IsxOk K (.ref C_TradeError) pi):CalleeH P w K mg base "_law_flags" vE 1 [Md.bw] mn:=by
 refine KY (k:=0) (fs:=vC) (m':=dU) A vA rfl (fun _ _ _ _ _ _ us hl=>by obtain⟨u0,rfl⟩:=wA us hl;kernel_rfl) fun f cdv A outer s H g E hr=>?_;have hu1:=HG hr;have hu64:=hr.units;exact(aT (dv 1 vA.nd (SO.toE (fR (cz (jr xb_TooMany ix_TooMany (by rfl) (by rfl) T.b_isinstance (aO 0)) (cz (jr xb_NotSquare ix_NotSquare (by rfl) (by rfl) T.b_isinstance (aO 0)) (cz (jr xb_NoFraction ix_NoFraction (by rfl) (by rfl) T.b_isinstance (aO 0)) (cz (jr xb_NoDeed ix_NoDeed (by rfl) (by rfl) T.b_isinstance (aO 0)) di)))))))
   (aT (dv 1 vA.nd (gG (aO 1) (SO.toB (fR (cz (jr xb_NoLine ix_NoLine (by rfl) (by rfl) T.b_isinstance (aO 0)) (cz (jr xb_NoRow ix_NoRow (by rfl) (by rfl) T.b_isinstance (aO 0)) (cz (jr xb_NoOwn ix_NoOwn (by rfl) (by rfl) T.b_isinstance (aO 0)) (cz (jr xb_NotOwned ix_NotOwned (by rfl) (by rfl) T.b_isinstance (aO 0)) di))))))))
   (aT (dv 1 vA.nd (gG (aO 1) (SO.toB (fR (cz (jr xb_NoOrder ix_NoOrder (by rfl) (by rfl) T.b_isinstance (aO 0)) (cz (jr xb_NoText ix_NoText (by rfl) (by rfl) T.b_isinstance (aO 0)) (cz (jr xb_NoTable ix_NoTable (by rfl) (by rfl) T.b_isinstance (aO 0)) di)))))))
   (aT (c9 (gG (aO 1) (SO.toB (fR (cz (jr xb_TradeError ix_TradeError (by rfl) (by rfl) T.b_isinstance (aO 0)) (cz (Kk (x := "ValueError") rfl T.b_ValueError ix_ValueError (by rfl) (by rfl) T.b_isinstance (aO 0)) di))))))
   bO))))
abbrev A6:Stmt:=dE 69
abbrev Gr:List Str:=["_law_wishes_here","_law_told","_law_e"]
abbrev A3:List Str:=["_law_wishes_here"]
theorem vH:FnScope Gr A3 (aM A6):=dG
def A0:FS:=(seqF (aV jb 1 (fun _=>Res.ok D.non)) (seqF (i5 jb 2 uU (seqF (kM jb (gZ (aP (gv 0) aN) [] tm)) bN) (seqF (aV [.sh,.sh,.sh] 1 (bX (aP (gv 2) aN) [] mn)) bN)) (seqF (retF [.sh,.sh,.sh] (gv 1)) bN)))
def vG:List D->Res D:=fun ds=>bP false (A0 (cO Gr.length ds))
theorem PK(T:Txt K mg)(A:DefAt K mg "_law_square_refused" A6)(c_eaten_x:CalleeX P w K mg base "eaten" zO [] 4 false [Md.bw] tm)(c__law_flags_h:CalleeH P w K mg base "_law_flags" vE 1 [Md.bw] mn){C_TradeError:Addr}{bm_TradeError:List a_}(xa_TradeError:XA K C_TradeError bm_TradeError)(xb_TradeError:mg "TradeError" = some (.ref C_TradeError))(hk_TradeError:lH K C_TradeError uU):Callee P w K mg base "_law_square_refused" A3 [] 5 false [Md.bw] vG:=
 eZ (m':=[.sh,.sh,.sh]) A vH fun f cdv A outer s H g E hr hu1=>(aT (dv 1 vH.nd jF)
   (aT (Cv (bmT:=bm_TradeError) (m1:=jb) 2 rfl rfl rfl xb_TradeError xa_TradeError.ob xa_TradeError.be hk_TradeError (by rfl) vH.nd (by rfl) (by rfl) (by rfl) (fun _ _=>(aT (ox (kj c_eaten_x (hr.mono (by decide)) (aQ (aO 0) cw)))
   bO)) (fun _=>(aT (dv 1 vH.nd (Do c__law_flags_h (RoomH.held (hr.mono (by decide))) (aQ (aO 2) cw)))
   bO)))
   (aT (c9 (v_ 1))
   bO)))
abbrev AJ:Stmt:=dE 68
abbrev Gf:List Str:=["_law_which","_law_wishes_here","_law_owns_here","_law_order","_law_told","_law_e"]
abbrev AY:List Str:=["_law_which","_law_wishes_here","_law_owns_here","_law_order"]
theorem vB:FnScope Gf AY (aM AJ):=dG
def AX:FS:=(seqF (aV gy 4 (fun _=>Res.ok D.non)) (seqF (i5 gy 5 tK (seqF (d8 gy (bW (f2 (gv 0) (ci 0) eqD)) (seqF (kM gy (gZ (aP (gv 1) (aP (gv 2) (aP (gv 3) aN))) [] o8)) bN) (seqF (d8 gy (bW (f2 (gv 0) (ci 1) eqD)) (seqF (kM gy (gZ (aP (gv 1) (aP (gv 2) (aP (gv 3) aN))) [] uM)) bN) (seqF (d8 gy (bW (f2 (gv 0) (ci 2) eqD)) (seqF (kM gy (gZ (aP (gv 1) (aP (gv 2) (aP (gv 3) aN))) [] oX)) bN) (seqF (kM gy (gZ (aP (gv 1) (aP (gv 2) (aP (gv 3) aN))) [] uF)) bN)) bN)) bN)) bN) (seqF (aV nH 4 (fq (aP (bX (aP (gv 5) aN) [] mn) (aP (f1 (gv 5) (lf pO "at")) aN)))) bN)) (seqF (retF nH (gv 4)) bN)))
def vD:List D->Res D:=fun ds=>bP false (AX (cO Gf.length ds))
theorem Oh(T:Txt K mg)(A:DefAt K mg "_law_refused" AJ)(c_rounds_x:CalleeX P w K mg base "rounds" uC [] 7 false dB o8)(c_by_rings_x:CalleeX P w K mg base "by_rings" AH [] 8 false dB uM)(c_asked_x:CalleeX P w K mg base "asked" tt [] 7 false dB oX)(c_by_asking_x:CalleeX P w K mg base "by_asking" AA [] 8 false dB uF)(c__law_flags_h:CalleeH P w K mg base "_law_flags" vE 1 [Md.bw] mn){C_NoOrder:Addr}{bm_NoOrder:List a_}(xa_NoOrder:XA K C_NoOrder bm_NoOrder)(xb_NoOrder:mg "NoOrder" = some (.ref C_NoOrder))(hk_NoOrder:lH K C_NoOrder tK)(at_at:pG K "at" pO):Callee P w K mg base "_law_refused" AY [] 9 false gz vD:=
 eZ (m':=nH) A vB fun f cdv A outer s H g E hr hu1=>have hu64:=hr.units;(aT (dv 4 vB.nd jF)
   (aT (Cv (bmT:=bm_NoOrder) (m1:=gy) 5 rfl rfl rfl xb_NoOrder xa_NoOrder.ob xa_NoOrder.be hk_NoOrder (by rfl) vB.nd (by rfl) (by rfl) (by rfl) (fun _ _=>(aT (de (eF hu64 (aO 0) iB) (aT (ox (kj c_rounds_x (hr.mono (by decide)) (aQ (aO 1) (aQ (aO 2) (eR (v_ 3) cw)))))
   bO)
   (aT (de (eF hu64 (aO 0) iB) (aT (ox (kj c_by_rings_x (hr.mono (by decide)) (aQ (aO 1) (aQ (aO 2) (eR (v_ 3) cw)))))
   bO)
   (aT (de (eF hu64 (aO 0) iB) (aT (ox (kj c_asked_x (hr.mono (by decide)) (aQ (aO 1) (aQ (aO 2) (eR (v_ 3) cw)))))
   bO)
   (aT (ox (kj c_by_asking_x (hr.mono (by decide)) (aQ (aO 1) (aQ (aO 2) (eR (v_ 3) cw)))))
   bO))
   bO))
   bO))
   bO)) (fun _=>(aT (dv 4 vB.nd (SO.toE (fR (cz (Do c__law_flags_h (RoomH.held (hr.mono (by decide))) (aQ (aO 5) cw)) (cz (Hc at_at (aO 5)) di)))))
   bO)))
   (aT (c9 (v_ 4))
   bO)))
abbrev wN:Stmt:=dE 70
abbrev B0:List Str:=["_law_script","_law_cell_here","_law_n","_law_m","_law_wishes_here","_law_owns_here","_law_ahead","_law_k","_law_order","_law_due","_law_which","_law_given"]
abbrev BN:List Str:=["_law_script"]
theorem jv:FnScope B0 BN (aM wN):=dG
abbrev Dw:FS:=(seqF (aV dS 11 (fC (aP (gv 8) aN) kN)) (seqF (d8 dS (iQ (bW (f2 (bX (aP (f2 (f2 (gv 10) (gv 7) addA) (ci 4) cP) (aP (gv 4) (aP (gv 5) (aP (gv 11) aN)))) [] vD) (gv 9) neD)) (bW (f2 (gv 11) (gv 8) neD))) (seqF (retF dS (fun _=>Res.ok (D.bl false))) bN) bN) bN))
abbrev Dj:FS:=(seqF (aV dS 8 (bX (aP (bX (aP (gv 0) (aP (gv 7) aN)) [] k9) (aP (gv 2) aN)) [] tD)) (seqF (aV dS 9 (fq (aP (f2 (f2 (fq (aP (fun _=>Res.ok (D.bl false)) aN)) (ci 8) i8) (fq (aP (fun _=>Res.ok (D.bl true)) (aP (fun _=>Res.ok (D.bl false)) (aP (fun _=>Res.ok (D.bl false)) (aP (fun _=>Res.ok (D.bl true)) (aP (fun _=>Res.ok (D.bl true)) aN)))))) addA) (aP (bX (aP (gv 8) (aP (gv 2) aN)) [] tj) aN)))) (seqF (g6 dS (gC gM (aP (ci 4) aN)) (cU 10) Dw) bN)))
def rT:FS:=(seqF (aV dS 1 (bX (aP (gv 0) (aP (ci 1) aN)) [] k9)) (seqF (aV dS 2 (f2 (ci 1) (f2 (gv 1) (ci 7) cP) addA)) (seqF (aV dS 3 (f2 (gv 2) (f2 (f2 (gv 1) (ci 7) iV) (f2 (ci 9) (gv 2) lj) cP) addA)) (seqF (aV dS 4 (bX (aP (gv 0) (aP (ci 4) (aP (gv 2) (aP (gv 3) aN)))) [] uE)) (seqF (aV dS 5 (bX (aP (bX (aP (gv 0) (aP (ci 2) aN)) [] k9) (aP (gv 2) (aP (gv 3) aN))) [] uB)) (seqF (aV dS 6 (iq (aP (bX (aP (gv 4) (aP (gv 5) aN)) [D.non] nk) (aP (bX (aP (gv 4) (aP (gv 5) aN)) [D.non] nr) aN)))) (seqF (g6 dS (gC jL (aP (ci 12) (aP (fC (aP (ci 14) (aP (fC (aP (fC (aP (gv 0) aN) lenD) (aP (ci 42) aN)) minD) aN)) maxD) aN))) (cU 7) Dj) (seqF (d8 dS (fL (bW (f2 (gv 3) (gv 2) kx)) (bW (f2 (bX (aP (gv 4) aN) [] vG) (f2 (f2 (fq (aP (fun _=>Res.ok (D.bl false)) (aP (fun _=>Res.ok (D.bl true)) aN))) (f2 (fq (aP (fun _=>Res.ok (D.bl false)) aN)) (ci 9) i8) addA) (fq (aP (fun _=>Res.ok (D.bl true)) (aP (fun _=>Res.ok (D.bl true)) aN))) addA) neD))) (seqF (retF dS (fun _=>Res.ok (D.bl false))) bN) bN) (seqF (retF dS (f2 (iq (aP (bX (aP (gv 4) (aP (gv 5) aN)) [D.non] nk) (aP (bX (aP (gv 4) (aP (gv 5) aN)) [D.non] nr) aN))) (gv 6) eqD)) bN)))))))))
def rK:List D->Res D:=fun ds=>bP false (rT (cO B0.length ds))
theorem Hk(T:Txt K mg){fa:Addr}{fd:Q7}(A:Fun K "law" "law" wN fa fd)(c__law_cell:Callee P w K mg base "_law_cell" tU [] 1 false q0 k9)(c__law_wishes:Callee P w K mg base "_law_wishes" Az [] 2 false jd uE)(c__law_owns:Callee P w K mg base "_law_owns" An [] 1 false [.sh,.bw,.bw] uB)(c_by_asking':Callee P w K mg base "by_asking" tW [Value.none] 8 false dB nr)(c_by_rings':Callee P w K mg base "by_rings" tH [Value.none] 8 false dB nk)(c__law_bad:Callee P w K mg base "_law_bad" Ad [] 2 false dU tD)(c__law_at:Callee P w K mg base "_law_at" zN [] 2 false q0 tj)(c__law_refused:Callee P w K mg base "_law_refused" AY [] 9 false gz vD)(c__law_square_refused:Callee P w K mg base "_law_square_refused" A3 [] 5 false [Md.bw] vG):FnOk P w K mg base dN 10 fa fd BN (kr K false [Md.sh] rK):=by
 refine Cz (k:=9) (fs:=rT) (m':=dS) A jv rfl fun cdv A outer s H g E hr=>?_;have hu1:=im hr;have hu64:=hr.units;exact(aT (dv 1 jv.nd (cZ c__law_cell (aQ (aO 0) (aQ iB cw))))
   (aT (dv 2 jv.nd (gG iB (bE (gT (aO 1) iB))))
   (aT (dv 3 jv.nd (gG (aO 2) (bE (gT (bE (mL (aO 1) iB)) (bE (Cu iB (aO 2)))))))
   (aT (dv 4 jv.nd (cZ c__law_wishes (aQ (aO 0) (aQ iB (aQ (aO 2) (aQ (aO 3) cw))))))
   (aT (dv 5 jv.nd (cZ c__law_owns (eR (cZ c__law_cell (aQ (aO 0) (aQ iB cw))) (aQ (aO 2) (aQ (aO 3) cw)))))
   (aT (dv 6 jv.nd (j8 (cz (pP (dvs:=[.non]) (dds:=[D.non]) c_by_rings' (hr.mono (by decide)) (aQ (aO 4) (aQ (aO 5) cw)) (hd:=.cons rfl .nil) (hsc:=.cons .non .nil)) (cz (pP (dvs:=[.non]) (dds:=[D.non]) c_by_asking' (hr.mono (by decide)) (aQ (aO 4) (aQ (aO 5) cw)) (hd:=.cons rfl .nil) (hsc:=.cons .non .nil)) di))))
   (aT (mG QS rfl (Mi (by rfl) T.b_range (dh iB (dh (bE (G6 rfl (by rfl) T.b_max (dh iB (dh (bE (G9 rfl (by rfl) T.b_min (dh (bE (hJ (by rfl) T.b_len (dh (aO 0) dA))) (dh iB dA)))) dA)))) dA))) (eB 7 jv.nd) (aT (dv 8 jv.nd (cZ c__law_bad (aQ (bE (cZ c__law_cell (aQ (aO 0) (aQ (aO 7) cw)))) (eR (v_ 2) cw))))
   (aT (dv 9 jv.nd (SO.toE (fR (cz (gG (SO.toB (Cf (fR (cz d6 di)) iB)) (SO.toB (fR (cz d6 (cz d6 (cz d6 (cz d6 (cz d6 di)))))))) (cz (cZ c__law_at (aQ (aO 8) (aQ (aO 2) cw))) di)))))
   (aT (mG QS rfl (qa (by rfl) T.b_range (dh iB dA)) (eB 10 jv.nd) (aT (dv 11 jv.nd (SO.toE (sx (by rfl) T.b_list (dh (aO 8) dA))))
   (aT (de (SW.toQ (ja (nG hu64 (bE (cZ c__law_refused (aQ (bE (gT (bE (gG (aO 10) (aO 7))) iB)) (aQ (aO 4) (aQ (aO 5) (eR (v_ 11) cw)))))) (aO 9)) (pL (nG hu64 (aO 11) (aO 8))))) (aT (c9 d6)
   bO)
   bO)
   bO)))
   bO))))
   (aT (de (SW.toQ (rY (lz (aO 3) (aO 2)) (sB (nG hu64 (bE (cZ c__law_square_refused (aQ (aO 4) cw))) (bE (gG (bE (gG (SO.toB (fR (cz d6 (cz d6 di)))) (SO.toB (Cf (fR (cz d6 di)) iB)))) (SO.toB (fR (cz d6 (cz d6 di)))))))))) (aT (c9 d6)
   bO)
   bO)
   (aT (c9 (lq hu64 (bE (j8 (cz (pP (dvs:=[.non]) (dds:=[D.non]) c_by_rings' (hr.mono (by decide)) (aQ (aO 4) (aQ (aO 5) cw)) (hd:=.cons rfl .nil) (hsc:=.cons .non .nil)) (cz (pP (dvs:=[.non]) (dds:=[D.non]) c_by_asking' (hr.mono (by decide)) (aQ (aO 4) (aQ (aO 5) cw)) (hd:=.cons rfl .nil) (hsc:=.cons .non .nil)) di)))) (aO 6)))
   bO)))))))))
end Law
namespace Law
open PySem L2 DL
abbrev nD(k:Nat):D:=.int (k:Int)
abbrev LN(l:List Nat):D:=.lst (l.map nD)
abbrev TN(l:List Nat):D:=.tup (l.map nD)
def oD:Option Nat->D
|none=>.non
|some k=>nD k
abbrev WD(rz:List (List Nat)):D:=.tup (rz.map TN)
abbrev OD(owns:List (Option Nat)):D:=.tup (owns.map oD)
theorem nB{ds:List D}(h:ds.length<=1000):sz ds=some ds:=He (QI h (by rw[QK];decide))
@[simp] theorem addA_int(a b:Int):addA (.int a) (.int b)=some (.int (a+b)):=rfl
theorem KZ{a b:Int}(h:iS a b):fm (.int a) (.int b)=some (.int (a*b)):=by rw[fm,intsC_int,if_pos h]
theorem DJ{a b:Int}(h:0<b):cP (.int a) (.int b)=some (.int (a%b)):=by rw[cP,intsC_int,if_pos h]
theorem EE{a b:Int}(h:iT a b):iV (.int a) (.int b)=some (.int (a/b)):=by rw[iV,intsC_int,if_pos h]
theorem aZ{s1 s2:FS}{r r':aS}(h:s1 r=.nx r'):seqF s1 s2 r=s2 r':=by unfold seqF;rw[h]
theorem cQ{s1 s2:FS}{r:aS}{d:D}(h:s1 r=.rt d):seqF s1 s2 r=.rt d:=by unfold seqF;rw[h]
theorem c8{m:List Md}{i:Nat}{f:FE}{r:aS}{d:D}(h:f r=.ok d):aV m i f r=.nx (r.set i (some d)):=by unfold aV;rw[h];rfl
theorem dc{m:List Md}{f:FE}{r:aS}{d:D}(h:f r=.ok d):retF m f r=.rt d:=by unfold retF;rw[h];rfl
theorem oi{m:List Md}{p:FQ}{s1 s2:FS}{r:aS}{b:Bool}(h:p r=.ok b):d8 m p s1 s2 r=if b=true then s1 r else s2 r:=by unfold d8;rw[h];rfl
theorem dI{m:List Md}{p:FQ}{s1 s2:FS}{r:aS}(h:p r=.ok true):d8 m p s1 s2 r=s1 r:=by rw[oi h,if_pos rfl]
theorem db{m:List Md}{p:FQ}{s1 s2:FS}{r:aS}(h:p r=.ok false):d8 m p s1 s2 r=s2 r:=by rw[oi h,if_neg i_]
theorem vU{p:FQ}{f f':FE}{r:aS}(h:p r=.ok true):lE p f f' r=f r:=by unfold lE;rw[h];rfl
theorem vT{p:FQ}{f f':FE}{r:aS}(h:p r=.ok false):lE p f f' r=f' r:=by unfold lE;rw[h];rfl
theorem kP{fl:aS->Res (List D)}{r:aS}{ds:List D}(h:fl r=.ok ds)(hl:ds.length<=1000):iq fl r=.ok (.tup ds):=by unfold iq;rw[h,bind_ok,nB hl];rfl
theorem gj{fl:aS->Res (List D)}{r:aS}{ds:List D}(h:fl r=.ok ds)(hl:ds.length<=1000):fq fl r=.ok (.lst ds):=by unfold fq;rw[h,bind_ok,nB hl];rfl
theorem mZ{ds:List D}{d:D}(h:ds.length<=1000):appD (.lst ds) [d]=some (.lst (ds++[d])):=by show(if ds.length<sizeLine then some (D.lst (ds++[d]))else none)=_;rw[if_pos (by rw[QK];omega)]
theorem cW{fl:aS->Res (List D)}{dds zs:List D}{F:List D->Res D}{r:aS}{d:D}(h1:fl r=.ok zs)(h2:F (zs++dds)=.ok d):bX fl dds F r=.ok d:=by unfold bX;rw[h1,bind_ok,h2];rfl
theorem rN{f:FE}{k:D->Option D}{r:aS}{a d:D}(h1:f r=.ok a)(h2:k a=some d):f1 f k r=.ok d:=by unfold f1;rw[h1,bind_ok,h2];rfl
theorem bM{f f':FE}{k:D->D->Option D}{r:aS}{a b d:D}(h1:f r=.ok a)(h2:f' r=.ok b)(h3:k a b=some d):f2 f f' k r=.ok d:=by unfold f2;rw[h1,bind_ok,h2,bind_ok,h3];rfl
theorem dW{fl:aS->Res (List D)}{k:List D->Option D}{r:aS}{ds:List D}{d:D}(h1:fl r=.ok ds)(h2:k ds=some d):fC fl k r=.ok d:=by unfold fC;rw[h1,bind_ok,h2];rfl
theorem aR{f:FE}{fl:aS->Res (List D)}{r:aS}{d:D}{ds:List D}(h1:f r=.ok d)(h2:fl r=.ok ds):aP f fl r=.ok (d::ds):=by unfold aP;rw[h1,bind_ok,h2];rfl
theorem aX{r:aS}:aN r=.ok []:=rfl
theorem dk{f:FE}{r:aS}{b:Bool}(h:f r=.ok (.bl b)):bW f r=.ok b:=by unfold bW;rw[h];rfl
theorem gW{f:FE}{r:aS}{d:D}{b:Bool}(h:f r=.ok d)(h2:i6 d=some b):eU f r=.ok b:=by unfold eU;rw[h,bind_ok,h2];rfl
theorem hU{p:FQ}{r:aS}{b:Bool}(h:p r=.ok b):fB p r=.ok (! b):=by unfold fB;rw[h];rfl
theorem oa{p q:FQ}{r:aS}(h:p r=.ok true):fL p q r=q r:=by unfold fL;rw[h];rfl
theorem rX{p q:FQ}{r:aS}(h:p r=.ok false):fL p q r=.ok false:=by unfold fL;rw[h];rfl
theorem iI{p q:FQ}{r:aS}(h:p r=.ok true):iQ p q r=.ok true:=by unfold iQ;rw[h];rfl
theorem fK{p q:FQ}{r:aS}(h:p r=.ok false):iQ p q r=q r:=by unfold iQ;rw[h];rfl
theorem su{f f':FE}{r:aS}(h:f r=.ok (.bl true)):gq f f' r=f' r:=by unfold gq;rw[h];rfl
theorem CV{f f':FE}{r:aS}(h:f r=.ok (.bl false)):gq f f' r=.ok (.bl false):=by unfold gq;rw[h];rfl
theorem iC{m:List Md}{fi:FI}{ft:FT}{b:FS}{r:aS}{ds:List D}(h:fi r=.ok ds):g6 m fi ft b r=bT ft b ds r:=by unfold g6;rw[h];rfl
theorem C7{f:FE}{r:aS}{d:D}{ds:List D}(h:f r=.ok d)(h2:dY d=some ds):df dY f r=.ok ds:=by unfold df;rw[h,bind_ok,h2];rfl
theorem jx{ft:FT}{b:FS}{r:aS}:bT ft b [] r=.nx r:=by unfold bT;rfl
theorem jt{ft:FT}{b:FS}{r r1 r':aS}{d:D}{ds:List D}(h1:ft d r=some r1)(h2:b r1=.nx r'):bT ft b (d::ds) r=bT ft b ds r':=by
 conv=>lhs;unfold bT
 simp only[h1,h2]
theorem wO{ft:FT}{b:FS}{r r1:aS}{d v:D}{ds:List D}(h1:ft d r=some r1)(h2:b r1=.rt v):bT ft b (d::ds) r=.rt v:=by
 conv=>lhs;unfold bT
 simp only[h1,h2]
theorem xU{m:List Md}{p:FQ}{b:FS}{n:Nat}{r:aS}(h:p r=.ok false):hV m p b (n+1) r=.nx r:=by unfold hV;rw[h];rfl
theorem xV{m:List Md}{p:FQ}{b:FS}{n:Nat}{r r':aS}(h:p r=.ok true)(h2:b r=.nx r'):hV m p b (n+1) r=hV m p b n r':=by
 conv=>lhs;unfold hV
 rw[h,onE_ok,if_pos rfl,h2]
theorem kQ{T:String}{m:List Md}{i:Nat}{fl:aS->Res (List D)}{mk:D->List D->Option D}{r:aS}{d d':D}{ds:List D}(h1:r[i]? = some (some d))(h2:vL T d=true)(h3:fl r=.ok ds)(h4:mk d ds=some d'):eG T m i fl mk r=.nx (r.set i (some d')):=by unfold eG;rw[h1];simp only[h2,if_true,h3,onE_ok,h4]
theorem mT{m:List Md}{i:Nat}{fk fv:FE}{r:aS}{d k v d':D}(h1:r[i]? = some (some d))(h2:fv r=.ok v)(h3:fk r=.ok k)(h4:gr d k v=some d'):DL.gO m i fk fv r=.nx (r.set i (some d')):=by unfold DL.gO;rw[h2,onE_ok];simp only[h1,h3,onE_ok,h4]
theorem Dp{fa fb fc:FE}{k k':D->D->Option D}{r:aS}{x y w d:D}(h1:fa r=.ok x)(h2:fb r=.ok y)(h3:k x y=some (.bl true))(h4:fc r=.ok w)(h5:k' y w=some d):kd fa fb fc k k' r=.ok d:=by unfold kd;rw[h1,bind_ok,h2,bind_ok,h3,opt_some,bind_ok];show(fc r).bind _=_;rw[h4,bind_ok,h5];rfl
theorem NL{ft:FT}{q:FQ}{fe:FE}{r0:aS}:iw ft q fe r0 []=.ok []:=by unfold iw;rfl
theorem ER{ft:FT}{q:FQ}{fe:FE}{r0:aS}{α:Type}(e:α->D)(keep:α->Bool)(g:α->D):∀(l:List α),(∀a∈l,∃r1,ft (e a) r0=some r1/\q r1=.ok (keep a)/\(keep a=true->fe r1=.ok (g a)))->iw ft q fe r0 (l.map e)=.ok ((l.filter keep).map g)
|[],_=>NL
|a::l,h=>by
  obtain⟨r1,h1,h2,h3⟩:=h a k_;have ih:=ER (ft:=ft) (q:=q) (fe:=fe) (r0:=r0) e keep g l fun b hb=>h b (m_ _ hb);rw[QE]
  conv=>lhs;unfold iw
  rw[h1,opt_some,bind_ok,h2,bind_ok];cases k:keep a with
 |true=>rw[if_pos rfl,h3 k,bind_ok,ih,bind_ok,Rk,if_pos k];rfl
 |false=>rw[if_neg i_,ih,Rk,if_neg (by rw[k];exact i_)]
theorem jw{nl:Nat}{cap:List Nat}{fi:FI}{ft:FT}{q:FQ}{fe:FE}{r:aS}{α:Type}{l:List α}(e:α->D)(keep:α->Bool)(g:α->D)(h1:fi r=.ok (l.map e))(hl:l.length<=1000)(h:∀a∈l,∃r1,ft (e a) (dg nl cap r)=some r1/\q r1=.ok (keep a)/\(keep a=true->fe r1=.ok (g a))):gb nl cap fi ft q fe r=.ok (.lst ((l.filter keep).map g)):=by unfold gb;rw[h1,bind_ok,nB (by simpa using hl),opt_some,bind_ok,ER e keep g l h,noXL_ok,bind_ok]
theorem GJ(k:Nat):rA (.int 0) (nD k)=some (.bl true):=by show some (D.bl (decide ((0:Int)<=(k:Int))))=_;rw[decide_eq_true (Tv k)]
theorem wB(a b:Nat):ku (nD a) (nD b)=some (.bl (decide (a<b))):=by show some (D.bl (decide ((a:Int)<(b:Int))))=_;simp only[Yj]
theorem rR(a b:Nat):kx (nD a) (nD b)=some (.bl (decide (b<a))):=by show some (D.bl (decide ((b:Int)<(a:Int))))=_;simp only[Yj]
theorem j5(a b:Nat):eqD (nD a) (nD b)=some (.bl (decide (a=b))):=by
 unfold eqD;rw[eqB_int];show some (D.bl ((a:Int)==(b:Int)))=_;have:((a:Int)==(b:Int))=decide (a=b):=by rw[P_,beq_iff_eq,decide_eq_true_iff];exact T8
 rw[this]
theorem dJ{B:FS}{n:Nat}{ds:List D}{d:D}(h:B (cO n ds)=.rt d):bP false (B (cO n ds))=.ok d:=by rw[h];rfl
abbrev kI(k:Nat):bQ:=Sum.inl (k:Int)
theorem wP(kvs:List (Nat×D))(k:Nat):fu (kvs.map fun p=>(kI p.1,p.2)) (kI k)=decide (k∈kvs.map (·.1)):=by
 unfold fu;rw[Uq,P_,T3,decide_eq_true_iff,B_];constructor
 .rintro⟨p,h1,h2⟩
  refine⟨p,h1,?_⟩;simp only[Sr,decide_eq_true_eq]at h2;have:((p.1:Nat):Int)=(k:Int):=WK h2;exact Int.ofNat.inj this
 .rintro⟨p,h1,rfl⟩
  exact⟨p,h1,by simp⟩
theorem Ex(kvs:List (Nat×D))(k:Nat)(d:D)(h:k∉kvs.map (·.1)):eQ (kvs.map fun p=>(kI p.1,p.2)) (kI k) d=(kvs++[(k,d)]).map fun p=>(kI p.1,p.2):=by unfold eQ;have e:((kvs.map fun p=>(kI p.1,p.2)).any fun kv=>decide (kv.1=kI k))=decide (k∈kvs.map (·.1)):=wP kvs k;rw[e,decide_eq_false h,if_neg i_,Q0];rfl
@[simp] theorem e_seq(s1 s2:FS)(r:aS):seqF s1 s2 r=(match s1 r with|.nx r'=>s2 r'|o=>o):=rfl
@[simp] theorem e_skip(r:aS):bN r=.nx r:=rfl
@[simp] theorem e_set(m:List Md)(i:Nat)(f:FE)(r:aS):aV m i f r=onE m r (f r) fun d=>.nx (r.set i (some d)):=rfl
@[simp] theorem e_ret(m:List Md)(f:FE)(r:aS):retF m f r=onE m r (f r) fun d=>.rt d:=rfl
@[simp] theorem e_if(m:List Md)(p:FQ)(s1 s2:FS)(r:aS):d8 m p s1 s2 r=onE m r (p r) fun c=>if c=true then s1 r else s2 r:=rfl
@[simp] theorem e_getV(r:aS)(i:Nat):gS r i=(match r[i]? with|some (some d)=>.ok d|_=>.stuck):=rfl
@[simp] theorem e_f1(f:FE)(k:D->Option D)(r:aS):f1 f k r=(f r).bind fun d=>dM (k d):=rfl
@[simp] theorem e_f2(f f':FE)(k:D->D->Option D)(r:aS):f2 f f' k r=(f r).bind fun a=>(f' r).bind fun b=>dM (k a b):=rfl
@[simp] theorem e_fC(fl:aS->Res (List D))(k:List D->Option D)(r:aS):fC fl k r=(fl r).bind fun ds=>dM (k ds):=rfl
@[simp] theorem e_lN(r:aS):aN r=.ok []:=rfl
@[simp] theorem e_lC(f:FE)(fl:aS->Res (List D))(r:aS):aP f fl r=(f r).bind fun d=>(fl r).bind fun ds=>.ok (d::ds):=rfl
@[simp] theorem e_test(f:FE)(r:aS):bW f r=(f r).bind fun d=>dM (jU d):=rfl
@[simp] theorem e_tru(f:FE)(r:aS):eU f r=(f r).bind fun d=>dM (i6 d):=rfl
@[simp] theorem e_not(p:FQ)(r:aS):fB p r=(p r).bind fun c=>.ok (! c):=rfl
@[simp] theorem e_and(p q:FQ)(r:aS):fL p q r=(p r).bind fun c=>if c=true then q r else .ok false:=rfl
@[simp] theorem e_or(p q:FQ)(r:aS):iQ p q r=(p r).bind fun c=>if c=true then .ok true else q r:=rfl
@[simp] theorem e_vand(f f':FE)(r:aS):gq f f' r=(f r).bind fun d=>(dM (jU d)).bind fun c=>if c=true then f' r else .ok (.bl false):=rfl
@[simp] theorem e_vor(f f':FE)(r:aS):Qn f f' r=(f r).bind fun d=>(dM (jU d)).bind fun c=>if c=true then .ok (.bl true)else f' r:=rfl
@[simp] theorem e_vnot(f:FE)(r:aS):lh f r=(f r).bind fun d=>(dM (jU d)).bind fun c=>.ok (.bl (! c)):=rfl
@[simp] theorem e_fIf(p:FQ)(f f':FE)(r:aS):lE p f f' r=(p r).bind fun c=>if c=true then f r else f' r:=rfl
@[simp] theorem e_call(fl:aS->Res (List D))(dds:List D)(F:List D->Res D)(r:aS):bX fl dds F r=(fl r).bind fun ds=>pD (F (ds++dds)):=rfl
@[simp] theorem e_asB(b:Bool):jU (.bl b)=some b:=rfl
@[simp] theorem e_truB(b:Bool):i6 (.bl b)=some b:=rfl
@[simp] theorem e_truL(ds:List D):i6 (.lst ds)=some (! ds.isEmpty):=rfl
@[simp] theorem e_loop(m:List Md)(fi:FI)(ft:FT)(b:FS)(r:aS):g6 m fi ft b r=onE m r (fi r) fun ds=>bT ft b ds r:=rfl
@[simp] theorem e_fSeq(k:D->Option (List D))(f:FE)(r:aS):df k f r=(f r).bind fun d=>dM (k d):=rfl
@[simp] theorem e_asL(ds:List D):dY (.lst ds)=some ds:=rfl
@[simp] theorem e_asT(ds:List D):dY (.tup ds)=some ds:=rfl
@[simp] theorem e_mkT(fl:aS->Res (List D))(r:aS):iq fl r=(fl r).bind fun ds=>(dM (sz ds)).bind fun ds=>.ok (.tup ds):=rfl
@[simp] theorem e_mkL(fl:aS->Res (List D))(r:aS):fq fl r=(fl r).bind fun ds=>(dM (sz ds)).bind fun ds=>.ok (.lst ds):=rfl
@[simp] theorem e_lenL(ds:List D):lenD [.lst ds]=some (.int ds.length):=rfl
@[simp] theorem e_lenT(ds:List D):lenD [.tup ds]=some (.int ds.length):=rfl
@[simp] theorem e_lenK(ds:List (bQ×D)):lenD [.dic ds]=some (.int ds.length):=rfl
@[simp] theorem e_tupL(ds:List D):tupD [.lst ds]=some (.tup ds):=rfl
@[simp] theorem e_listL(ds:List D):kN [.lst ds]=some (.lst ds):=rfl
@[simp] theorem e_listT(ds:List D):kN [.tup ds]=some (.lst ds):=rfl
@[simp] theorem e_isNN:jR .non .non=some (.bl true):=rfl
@[simp] theorem e_isLN(ds:List D):jR (.lst ds) .non=some (.bl false):=rfl
@[simp] theorem e_isn1:iM .non .non=some (.bl false):=rfl
@[simp] theorem e_isn2(i:Int):iM (.int i) .non=some (.bl true):=rfl
@[simp] theorem e_isn3(ds:List D):iM (.tup ds) .non=some (.bl true):=rfl
@[simp] theorem e_valsD(kvs:List (bQ×D)):sm (.dic kvs)=some (.lst (kvs.map (·.2))):=rfl
theorem mC{ds:List D}{i:Nat}{d:D}(h:ds[i]? = some d):dj (.tup ds) (nD i)=some d:=by have hl:i<ds.length:=(c_.mp h).1;show gJ ds (i:Int)=some d;unfold gJ iL;rw[if_pos (Tv i),if_pos (by omega)];simpa using h
theorem pI{ds:List D}{i:Nat}{d:D}(h:ds[i]? = some d):dj (.lst ds) (nD i)=some d:=by have hl:i<ds.length:=(c_.mp h).1;show gJ ds (i:Int)=some d;unfold gJ iL;rw[if_pos (Tv i),if_pos (by omega)];simpa using h
@[simp] theorem ixA_L0(d:D)(ds:List D):dj (.lst (d::ds)) (.int 0)=some d:=pI (i:=0) rfl
@[simp] theorem ixA_T0(d:D)(ds:List D):dj (.tup (d::ds)) (.int 0)=some d:=mC (i:=0) rfl
theorem BK{kvs:List (bQ×D)}{k:Nat}{d:D}(h:dm kvs (kI k)=some d):dj (.dic kvs) (nD k)=some d:=h
theorem rC(l:List Nat)(k:Nat):(l.map nD).any (fun y=>fZ y (nD k))=decide (k∈l):=by
 rw[Uq,P_,T3,decide_eq_true_iff];constructor
 .rintro⟨x,h1,h2⟩
  have:(((x:Nat):Int)==(k:Int))=true:=h2;have:=T8.mp (RK this);subst this;exact h1
 .intro h;exact⟨k,h,by show(((k:Nat):Int)==(k:Int))=true;simp⟩
theorem wE(l:List Nat):(l.map nD).all dX=true:=by rw[RL];intro x hx;obtain⟨k,_,rfl⟩:=B_.mp hx;rfl
theorem wG(l:List Nat)(k:Nat):iN (nD k) (LN l)=some (.bl (decide (k∈l))):=by show(if dX (nD k)=true/\(l.map nD).all dX=true then some ((l.map nD).any fun y=>fZ y (nD k))else none).map D.bl=_;rw[if_pos ⟨rfl,wE l⟩,rC];rfl
theorem wY(l:List Nat)(k:Nat):fj (nD k) (LN l)=some (.bl (! decide (k∈l))):=by show(if dX (nD k)=true/\(l.map nD).all dX=true then some ((l.map nD).any fun y=>fZ y (nD k))else none).map (fun b=>D.bl (! b))=_;rw[if_pos ⟨rfl,wE l⟩,rC];rfl
theorem PB(k:Nat):qi [nD k]=.ok (.bl true):=rfl
theorem Pz(k b:Nat):kW [nD k,nD b]=.ok (.bl (decide (k<b))):=by refine dJ (B:=ni) (n:=2) ?_;unfold ni;refine cQ (dc ?_);rw[su (cW (aR (d:=nD k) rfl aX) (PB k))];exact Dp rfl rfl (GJ k) rfl (wB k b)
theorem qb{α:Type}(f:α->D)(l:List α):lenD [.tup (l.map f)]=some (nD l.length):=by show some (D.int ((l.map f).length:Int))=_;rw[p_]
theorem m7{α:Type}(f:α->D)(l:List α):lenD [.lst (l.map f)]=some (nD l.length):=by show some (D.int ((l.map f).length:Int))=_;rw[p_]
theorem Em{α:Type}(f:α->bQ×D)(l:List α):lenD [.dic (l.map f)]=some (nD l.length):=by show some (D.int ((l.map f).length:Int))=_;rw[p_]
theorem EB(n:Nat):eqD (nD n) (nD n)=some (.bl true):=by have e:=j5 n n;rw[decide_eq_true rfl]at e;exact e
theorem C2(n:Nat):eD 0 n=(C_ n).map nD:=by unfold eD;refine RD fun i _=>?_;show D.int (0+(i:Int))=D.int (i:Int);rw[Int.zero_add]
theorem Nq(j:Int):lO [.int j]=if-(2^62)<=j/\j<2^62/\j.toNat<=sizeLine then some (.lst (eD 0 j.toNat))else none:=rfl
theorem xY{n:Nat}(h:n<=1000):lO [nD n]=some (LN (C_ n)):=by
 have hs:(n:Int).toNat<=sizeLine:=by rw[Rw,QK];omega
 rw[Nq,if_pos ⟨by omega,by omega,hs⟩,Rw,C2]
theorem LV(j:Int):gM [.int j]=if-(2^62)<=j/\j<2^62 then some (eD 0 j.toNat)else none:=rfl
theorem pV{n:Nat}(h:n<=1000):gM [nD n]=some ((C_ n).map nD):=by rw[LV,if_pos ⟨by omega,by omega⟩,Rw,C2]
theorem oy{fl:aS->Res (List D)}{k:List D->Option (List D)}{r:aS}{ds es:List D}(h1:fl r=.ok ds)(h2:k ds=some es):gC k fl r=.ok es:=by unfold gC;rw[h1,bind_ok,h2];rfl
theorem FV{p:Nat->Bool}:∀(l:List Nat),l.find? p=(l.filter p).head?
|[]=>rfl
|a::l=>by rw[QH,Rk];cases h:p a with
 |true=>simp
 |false=>simpa using FV l
theorem BR(o:Option Nat)(x:Nat):eqD (oD o) (nD x)=some (.bl (decide (o=some x))):=by cases o with
|none=>unfold eqD oD;rw[eqB_non_int];simp
|some k=>show eqD (nD k) (nD x)=_;rw[j5];simp
def own(owns:List (Option Nat))(h:Nat):Option Nat:=(owns[h]?).join
theorem CM{owns:List (Option Nat)}{h:Nat}(hh:h<owns.length):(owns.map oD)[h]? = some (oD (own owns h)):=by rw[F_,g_ hh];unfold own;rw[g_ hh];rfl
theorem zR{row:List Nat}{rest:List (List Nat)}:lc [WD (row::rest)]=.ok (nD row.length):=by refine dJ (B:=Am) (n:=1) ?_;unfold Am;exact cQ (dc (dW (aR (bM (a:=WD (row::rest)) (b:=.int 0) rfl rfl (ixA_T0 _ _)) aX) (qb _ _)))
theorem MG{row things:List Nat}(h:∃x∈row,x∈things)(hl:row.length<=1000):me [TN row,LN things]=.ok (nD (Rg.fD row things)):=by
 refine dJ (B:=Aj) (n:=2) ?_;unfold Aj;have hc:(gb 1 [1] (df dY (gv 0)) (cU 0) (bW (f2 (gv 0) (gv 1) iN)) (gv 0)) [some (TN row),some (LN things)]=.ok (LN (row.filter fun x=>decide (x∈things))):=by
  refine jw nD (fun x=>decide (x∈things)) nD (l:=row) rfl hl fun a _=>⟨[some (nD a),some (LN things)],rfl,?_,fun _=>rfl⟩
  exact dk (bM (a:=nD a) (b:=LN things) rfl rfl (wG _ _))
 have hb:∃t,(row.filter fun x=>decide (x∈things))=Rg.fD row things::t:=by unfold Rg.fD;rw[FV];cases e:row.filter fun x=>decide (x∈things)with
 |nil=>obtain⟨x,h1,h2⟩:=h;have:x∈row.filter fun x=>decide (x∈things):=t_.mpr ⟨h1,by simpa using h2⟩;rw[e]at this;cases this
 |cons a t=>exact⟨t,rfl⟩
 obtain⟨t,ht⟩:=hb;rw[ht]at hc;exact cQ (dc (bM hc (b:=.int 0) rfl (ixA_L0 _ _)))
abbrev eI(pre:List Nat):D:=.dic ((pre.map fun k=>(k,D.bl true)).map fun p=>(kI p.1,p.2))
theorem C9(b:Nat)(num:D):∀(suf pre:List Nat)(x y:Option D),(pre++suf).Nodup->(∀k∈suf,k<b)->(pre++suf).length<=1000 ->∃x' y',bT (ir (eJ (cU 3) (eJ (cU 4) il))) k6 (dq pre.length (suf.map nD)) [some num,some (nD b),some (eI pre),x,y]=.nx [some num,some (nD b),some (eI (pre++suf)),x',y']
|[],pre,x,y,_,_,_=>⟨x,y,by rw[QX];exact jx⟩
|k::suf,pre,x,y,hn,hb,hl=>by
  have hk:k∉pre:=fun z=>(RU.mp hn).2.2 k z k k_ rfl;obtain⟨x',y',ih⟩:=C9 b num suf (pre++[k]) (some (nD pre.length)) (some (nD k)) (by simpa using hn) (fun j hj=>hb j (m_ _ hj)) (by simpa using hl);refine⟨x',y',?_⟩;rw[show(pre++[k]).length=pre.length+1 by simp]at ih;rw[show pre++k::suf=(pre++[k])++suf by simp,<-ih];show bT _ _ (.tup [.int ((pre.length:Nat):Int),nD k]::dq (pre.length+1) (suf.map nD)) _=_;refine jt (r1:=[some num,some (nD b),some (eI pre),some (nD pre.length),some (nD k)]) rfl ?_;have c2:iN (nD k) (eI pre)=some (.bl false):=by
   show(some (fu _ (kI k))).map D.bl=_;rw[wP,QT];have:decide (k∈pre.map ((fun p:Nat×D=>p.1)∘fun k=>(k,D.bl true)))=false:=by rw[decide_eq_false_iff_not];simpa[S_]using hk
   rw[this];rfl
  have c3:gr (eI pre) (nD k) (.bl true)=some (eI (pre++[k])):=by show(if _ then some (D.dic (eQ _ (kI k) (.bl true)))else none)=_;rw[if_pos (by rw[p_,p_,QK];simp at hl;omega),Ex _ _ _ (by rw[QT];simpa[S_]using hk)];simp
  have c1:decide (k<b)=true:=decide_eq_true (hb k k_);unfold k6;have hif:(iQ (fB (eU (bX (aP (gv 4) (aP (gv 1) aN)) [] kW))) (bW (f2 (gv 4) (gv 2) iN))) [some num,some (nD b),some (eI pre),some (nD pre.length),some (nD k)]=.ok false:=by have h0:=Pz k b;rw[c1]at h0;rw[fK (hU (gW (b:=true) (cW (aR (d:=nD k) rfl (aR (d:=nD b) rfl aX)) h0) rfl))];exact dk (bM (a:=nD k) (b:=eI pre) rfl rfl c2)
  refine(aZ (oi hif)).trans ?_;exact aZ (mT (d:=eI pre) (k:=nD k) rfl rfl rfl c3)
theorem Qc{l:List Nat}{b:Nat}(hn:l.Nodup)(hb:∀k∈l,k<b)(hl:l.length<=1000):ny [LN l,nD b]=.ok (nD l.length):=by obtain⟨x',y',h⟩:=C9 b (LN l) l [] none none hn hb hl;refine dJ (B:=qM) (n:=5) ?_;unfold qM;refine(aZ (r':=[some (LN l),some (nD b),some (eI []),none,none]) rfl).trans ?_;refine(aZ ((iC (ds:=dq 0 (l.map nD)) rfl).trans h)).trans ?_;exact cQ (dc (dW (aR (d:=LN l) rfl aX) (m7 _ _)))
theorem OA{l:List Nat}{n:Nat}(hn:l.Nodup)(hb:∀k∈l,k<n)(h8:l.length<=1000):qq [LN l,nD n]=.ok (.bl true):=by refine dJ (B:=qp) (n:=2) ?_;unfold qp;exact cQ (dc (bM (a:=nD l.length) (b:=nD l.length) (cW (aR (d:=LN l) rfl (aR (d:=nD n) rfl aX)) (Qc hn hb h8)) (dW (aR (d:=LN l) rfl aX) (m7 _ _)) (EB _)))
theorem L1{l:List Nat}{n:Nat}(hn:l.Nodup)(hb:∀k∈l,k<n)(hl:l.length=n)(h8:n<=1000):nu [LN l,nD n]=.ok (.bl true):=by refine dJ (B:=qz) (n:=2) ?_;unfold qz;subst hl;refine cQ (dc ?_);rw[su (bM (a:=nD l.length) (b:=nD l.length) (dW (aR (d:=LN l) rfl aX) (m7 _ _)) rfl (EB _))];exact cW (aR (d:=LN l) rfl (aR (d:=nD l.length) rfl aX)) (OA hn hb h8)
theorem P5{rz:List (List Nat)}(h:rz.length<=1000):mh [WD rz,.non]=.ok (LN (C_ rz.length)):=by refine dJ (B:=pf) (n:=2) ?_;unfold pf;refine cQ ((oi (b:=true) rfl).trans ?_);rw[if_pos rfl];exact cQ (dc (dW (ds:=[nD rz.length]) (aR (dW (aR (d:=WD rz) rfl aX) (qb _ _)) aX) (xY h)))
theorem N8{rz:List (List Nat)}{l:List Nat}(hn:l.Nodup)(hb:∀k∈l,k<rz.length)(hl:l.length=rz.length)(h8:rz.length<=1000):mh [WD rz,LN l]=.ok (LN l):=by refine dJ (B:=pf) (n:=2) ?_;unfold pf;refine(aZ (r':=[some (WD rz),some (LN l)]) ((oi (b:=false) rfl).trans rfl)).trans ?_;refine(aZ (r':=[some (WD rz),some (LN l)]) ((oi (b:=false) (hU (b:=true) (gW (cW (aR (d:=LN l) rfl (aR (dW (aR (d:=WD rz) rfl aX) (qb _ _)) aX)) (L1 hn hb hl h8)) rfl))).trans rfl)).trans ?_;exact cQ (dc (dW (aR (d:=LN l) rfl aX) rfl))
theorem Db(owns:List (Option Nat))(line:List Nat)(x:Nat):∀(l:List Nat)(y:Option D),(∀h∈l,h<owns.length) ->(match l.find? (fun h=>decide (own owns h=some x))with
  |some h=>bT (cU 3) qx (l.map nD) [some (OD owns),some (LN line),some (nD x),y]=.rt (nD h)
  |none=>∃y',bT (cU 3) qx (l.map nD) [some (OD owns),some (LN line),some (nD x),y]=.nx [some (OD owns),some (LN line),some (nD x),y'])
|[],y,_=>⟨y,jx⟩
|h::l,y,hl=>by have c:(bW (f2 (f2 (gv 0) (gv 3) dj) (gv 2) eqD)) [some (OD owns),some (LN line),some (nD x),some (nD h)]=.ok (decide (own owns h=some x)):=dk (bM (bM (a:=OD owns) (b:=nD h) rfl rfl (mC (CM (hl h k_)))) (b:=nD x) rfl (BR _ _));rw[QH];cases e:decide (own owns h=some x)with
 |true=>rw[e]at c;refine wO (r1:=[some (OD owns),some (LN line),some (nD x),some (nD h)]) rfl ?_;exact cQ ((dI c).trans (cQ (dc (d:=nD h) rfl)))
 |false=>rw[e]at c;have ih:=Db owns line x l (some (nD h)) fun k hk=>hl k (m_ _ hk);have st:bT (cU 3) qx ((h::l).map nD) [some (OD owns),some (LN line),some (nD x),y]=bT (cU 3) qx (l.map nD) [some (OD owns),some (LN line),some (nD x),some (nD h)]:=jt (r1:=[some (OD owns),some (LN line),some (nD x),some (nD h)]) rfl ((aZ (db c)).trans rfl);rw[st];exact ih
theorem E6{owns:List (Option Nat)}{line:List Nat}{x:Nat}(hl:∀h∈line,h<owns.length):ng [OD owns,LN line,nD x]=.ok (oD (line.find? fun h=>decide (own owns h=some x))):=by refine dJ (B:=AQ) (n:=4) ?_;unfold AQ;have h:=Db owns line x line none hl;cases e:line.find? fun h=>decide (own owns h=some x)with
|some k=>rw[e]at h;exact cQ ((iC (ds:=line.map nD) rfl).trans h)
|none=>rw[e]at h;obtain⟨y',h⟩:=h;exact(aZ ((iC (ds:=line.map nD) rfl).trans h)).trans (cQ (dc (d:=.non) rfl))
theorem BJ(o:Option Nat):jR (oD o) .non=some (.bl (decide (o=none))):=by cases o <;> rfl
theorem Oy{owns:List (Option Nat)}{line:List Nat}{x:Nat}(hl:∀h∈line,h<owns.length)(hne:line≠[]):qP [OD owns,LN line,nD x]=.ok (nD ((line.find? fun h=>decide (own owns h=some x)).getD (line.headD 0))):=by refine dJ (B:=A4) (n:=4) ?_;unfold A4;refine(aZ (c8 (cW (aR (d:=OD owns) rfl (aR (d:=LN line) rfl (aR (d:=nD x) rfl aX))) (E6 hl)))).trans ?_;refine cQ (dc ?_);have c:=dk (bM (f:=gv 3) (f':=fun _=>Res.ok D.non) (r:=[some (OD owns),some (LN line),some (nD x),some (oD (line.find? fun h=>decide (own owns h=some x)))]) rfl rfl (BJ (line.find? fun h=>decide (own owns h=some x))));cases e:line.find? fun h=>decide (own owns h=some x)with
|some k=>rw[e,decide_eq_false (by simp)]at c;exact(vT c).trans rfl
|none=>rw[e,decide_eq_true rfl]at c;refine(vU c).trans ?_;cases line with
 |nil=>exact absurd rfl hne
 |cons a l=>exact bM (a:=LN (a::l)) (b:=.int 0) rfl rfl (ixA_L0 _ _)
abbrev KD(kvs:List (Nat×Nat)):D:=.dic (kvs.map fun p=>(kI p.1,nD p.2))
abbrev FD(l:List Nat)(f:Nat->Nat):List (Nat×Nat):=l.map fun h=>(h,f h)
theorem wR{a b:Nat}(h:kI a=kI b):a=b:=T8.mp (WK h)
theorem zH:∀{kvs:List (Nat×Nat)}{h:Nat}{f:Nat->Nat},(∀p∈kvs,p.2=f p.1)->h∈kvs.map (·.1)->dm (kvs.map fun p=>(kI p.1,nD p.2)) (kI h)=some (nD (f h))
|[],_,_,_,hh=>by cases hh
|p::kvs,h,f,hf,hh=>by
  by_cases e:p.1=h
  .have:=hf p k_;subst e;simp[dm,QH,this]
  .have hne:¬ kI p.1=kI h:=fun z=>e (wR z);have hh':h∈kvs.map (·.1):=by
    rcases w_.mp hh with z|z
    .exact absurd z.symm e
    .exact z
   have ih:=zH (f:=f) (fun q hq=>hf q (m_ _ hq)) hh';have e1:dm ((p::kvs).map fun p=>(kI p.1,nD p.2)) (kI h)=dm (kvs.map fun p=>(kI p.1,nD p.2)) (kI h):=by simp only[dm,QE,QH];rw[decide_eq_false hne]
   rw[e1];exact ih
theorem xO(l:List Nat)(f:Nat->Nat):(FD l f).map (·.1)=l:=by simp[FD,S_]
theorem pQ{l:List Nat}{f:Nat->Nat}{h:Nat}(hh:h∈l):dj (KD (FD l f)) (nD h)=some (nD (f h)):=BK (zH (f:=f) (fun p hp=>by obtain⟨x,_,rfl⟩:=B_.mp hp;rfl) (by rw[xO];exact hh))
def putN(kvs:List (Nat×Nat))(k v:Nat):List (Nat×Nat):=if k∈kvs.map (·.1)then kvs.map fun p=>if p.1=k then(p.1,v)else p else kvs++[(k,v)]
theorem rB(kvs:List (Nat×Nat))(k:Nat):((kvs.map fun p=>(kI p.1,nD p.2)).any fun kv=>decide (kv.1=kI k))=decide (k∈kvs.map (·.1)):=by
 rw[Uq,P_,T3,decide_eq_true_iff,B_];constructor
 .rintro⟨p,h1,h2⟩
  simp only[Sr,decide_eq_true_eq]at h2;exact⟨p,h1,wR h2⟩
 .rintro⟨p,h1,rfl⟩
  exact⟨p,h1,by simp⟩
theorem C0(kvs:List (Nat×Nat))(k v:Nat):eQ (kvs.map fun p=>(kI p.1,nD p.2)) (kI k) (nD v)=(putN kvs k v).map fun p=>(kI p.1,nD p.2):=by
 unfold eQ putN;rw[rB];by_cases h:k∈kvs.map (·.1)
 .rw[decide_eq_true h,if_pos rfl,if_pos h,QT,QT];refine RD fun p _=>?_;simp only[Sr];by_cases e:p.1=k
  .rw[if_pos (by rw[e]),if_pos e]
  .rw[if_neg (fun z=>e (wR z)),if_neg e]
 .rw[decide_eq_false h,if_neg i_,if_neg h,Q0];rfl
theorem N4(kvs:List (Nat×Nat))(k v j:Nat):j∈(putN kvs k v).map (·.1)↔j∈kvs.map (·.1)\/j=k:=by
 unfold putN;by_cases h:k∈kvs.map (·.1)
 .rw[if_pos h,QT];have:((fun p:Nat×Nat=>p.1)∘fun p=>if p.1=k then(p.1,v)else p)=fun p=>p.1:=by funext p;simp only[Sr];split <;> rfl
  rw[this];constructor
  .exact .inl
  .rintro(z|rfl)
   .exact z
   .exact h
 .rw[if_neg h];simp
theorem MB{kvs:List (Nat×Nat)}{k v:Nat}{f:Nat->Nat}(h:∀p∈kvs,p.2=f p.1)(hv:v=f k):∀p∈putN kvs k v,p.2=f p.1:=by
 intro p hp;unfold putN at hp;split at hp
 .obtain⟨q,h1,rfl⟩:=B_.mp hp;split
  .rename_i e;simp only;rw[e];exact hv
  .exact h q h1
 .rcases QW.mp hp with z|z
  .exact h p z
  .rw[u_.mp z];exact hv
theorem xA{kvs:List (Nat×Nat)}{k v:Nat}(hl:kvs.length<=1000):gr (KD kvs) (nD k) (nD v)=some (KD (putN kvs k v)):=by show(if (kvs.map fun p=>(kI p.1,nD p.2)).length<sizeLine then some (D.dic (eQ _ (kI k) (nD v)))else none)=_;rw[if_pos (by rw[p_,QK];omega),C0]
structure GI(t:Nat->Nat)(kvs:List (Nat×Nat))(L:List Nat):Prop where
 nd:(kvs.map (·.1)).Nodup
 val:∀p∈kvs,p.2=t p.1
 key:∀h,h∈kvs.map (·.1)↔h∈L
theorem KI{kvs:List (Nat×Nat)}{k v:Nat}(h:(kvs.map (·.1)).Nodup):((putN kvs k v).map (·.1)).Nodup:=by
 unfold putN;split
 .rw[QT];have:((fun p:Nat×Nat=>p.1)∘fun p=>if p.1=k then(p.1,v)else p)=fun p=>p.1:=by funext p;simp only[Sr];split <;> rfl
  rw[this];exact h
 .rename_i hk;rw[Q0];refine RU.mpr ⟨h,by simp,fun a ha b hb=>?_⟩;simp at hb
  rintro rfl
  exact hk (hb▸ha)
theorem GI.put{t:Nat->Nat}{kvs:List (Nat×Nat)}{L:List Nat}(g:GI t kvs L)(k:Nat):GI t (putN kvs k (t k)) (L++[k]):=⟨KI g.nd,MB g.val rfl,fun h=>by rw[N4,g.key];simp⟩
theorem GI.len{t:Nat->Nat}{kvs:List (Nat×Nat)}{L line:List Nat}(g:GI t kvs L)(hs:∀h∈L,h∈line):kvs.length<=line.length:=by have:=Rg.kT (m:=line) g.nd fun h hh=>hs h ((g.key h).mp hh);simpa using this
theorem GI.congr{t t':Nat->Nat}{kvs:List (Nat×Nat)}{L:List Nat}(g:GI t kvs L)(h:∀x∈L,t' x=t x):GI t' kvs L:=⟨g.nd,fun p hp=>by rw[g.val p hp,h p.1 ((g.key _).mp (B_.mpr ⟨p,hp,rfl⟩))],g.key⟩
theorem GI.mem{t:Nat->Nat}{kvs:List (Nat×Nat)}{L M:List Nat}(g:GI t kvs L)(h:∀x,x∈L↔x∈M):GI t kvs M:=⟨g.nd,g.val,fun x=>(g.key x).trans (h x)⟩
theorem GI.nil(t:Nat->Nat):GI t [] []:=⟨by simp,fun _ hp=>(nomatch hp),fun h=>by simp⟩
theorem na{α:Type}(l:List α):l.filter (fun _=>true)=l:=VN.mpr fun _ _=>rfl
theorem GI.full{t:Nat->Nat}{kvs:List (Nat×Nat)}{L:List Nat}{n:Nat}(g:GI t kvs L)(h:∀x,x∈L↔x<n):kvs.length=n:=by have h1:=g.len (line:=C_ n) fun x hx=>QJ.mpr ((h x).mp hx);have h2:=Rg.kT (l:=C_ n) (m:=kvs.map (·.1)) T4 fun x hx=>(g.key x).mpr ((h x).mpr (QJ.mp hx));simp at h1 h2;omega
def Wr(rz:List (List Nat))(h:Nat):List Nat:=(rz[h]?).getD []
theorem C3{rz:List (List Nat)}{h:Nat}(hh:h<rz.length):(rz.map TN)[h]? = some (TN (Wr rz h)):=by rw[F_];unfold Wr;rw[g_ hh];rfl
theorem Ey{kvs:List (Nat×Nat)}{k v:Nat}(h:k∉kvs.map (·.1)):putN kvs k v=kvs++[(k,v)]:=by unfold putN;rw[if_neg h]
theorem Gi{a:Nat->Nat}{kvs:List (Nat×Nat)}{L:List Nat}{n:Nat}(g:GI a kvs L)(h:∀x,x∈L↔x<n)(h8:n<=60):ko [KD kvs]=.ok (TN ((C_ n).map a)):=by have hl:=g.full h;refine dJ (B:=AO) (n:=1) ?_;unfold AO;refine cQ (dc (dW (aR (jw (l:=C_ n) nD (fun _=>true) (fun h=>nD (a h)) (oy (ds:=[nD n]) (aR (dW (aR (d:=KD kvs) rfl aX) (by rw[Em,hl])) aX) (pV (by omega))) (by simp;omega) fun x hx=>⟨[some (nD x),some (KD kvs)],rfl,rfl,fun _=>bM (a:=KD kvs) (b:=nD x) rfl rfl (BK (zH g.val ((g.key x).mpr ((h x).mpr (QJ.mp hx)))))⟩) aX) ?_));rw[na,e_tupL];show some (D.tup _)=some (D.tup _);rw[QT];rfl
abbrev fT(t:Nat->Nat)(h:Nat):D:=.tup [nD h,nD (t h)]
abbrev eu(t:Nat->Nat)(ring:List Nat):D:=.tup (ring.map (fT t))
def kR(t:Nat->Nat):Option (List Nat)->D
|some ring=>eu t ring
|none=>.non
section
variable{t f:Nat->Nat}{line:List Nat}{first:Nat}(hcl:∀h∈line,f h∈line)(hn:line.length<=60)
include hcl hn
theorem LS:∀(j:Nat)(ring:List Nat)(hand:Nat),hand∈line->ring.length<=line.length->line.length<j+ring.length ->∃ring' hand',hV iH AC F0 j [some (nD first),some (KD (FD line t)),some (KD (FD line f)),some (.lst (ring.map (fT t))),some (nD hand)]=.nx [some (nD first),some (KD (FD line t)),some (KD (FD line f)),some (.lst (ring'.map (fT t))),some (nD hand')] /\∀k,line.length<k+ring.length->Rg.jD f line.length first k ring hand=if hand'=first then some ring' else none:=by
 intro j
 induction j with
|zero=>intro ring hand _ h1 h2;omega
|succ j ih=>
  intro ring hand hh h1 h2;have c1:(bW (f2 (gv 4) (gv 0) kx)) [some (nD first),some (KD (FD line t)),some (KD (FD line f)),some (.lst (ring.map (fT t))),some (nD hand)]=.ok (decide (first<hand)):=dk (bM (a:=nD hand) (b:=nD first) rfl rfl (rR _ _));have c2:(bW (f2 (fC (aP (gv 3) aN) lenD) (fC (aP (gv 1) aN) lenD) ku)) [some (nD first),some (KD (FD line t)),some (KD (FD line f)),some (.lst (ring.map (fT t))),some (nD hand)]=.ok (decide (ring.length<line.length)):=by refine dk (bM (a:=nD ring.length) (b:=nD line.length) (dW (aR rfl aX) (m7 _ _)) (dW (aR (d:=KD (FD line t)) rfl aX) ?_) (wB _ _));rw[Em,p_]
  by_cases hc:first<hand/\ring.length<line.length
  .have cq:AC [some (nD first),some (KD (FD line t)),some (KD (FD line f)),some (.lst (ring.map (fT t))),some (nD hand)]=.ok true:=by rw[decide_eq_true hc.1]at c1;rw[decide_eq_true hc.2]at c2;exact(oa c1).trans c2
   obtain⟨ring',hand',i1,i2⟩:=ih (ring++[hand]) (f hand) (hcl hand hh) (by simp;omega) (by simp;omega);refine⟨ring',hand',?_,fun k hk=>?_⟩
   .rw[xV cq (r':=[some (nD first),some (KD (FD line t)),some (KD (FD line f)),some (.lst ((ring++[hand]).map (fT t))),some (nD (f hand))]) ?_]
    .exact i1
    .refine(aZ (kQ (d:=.lst (ring.map (fT t))) (ds:=[fT t hand]) rfl rfl (aR (kP (aR (d:=nD hand) rfl (aR (bM (a:=KD (FD line t)) (b:=nD hand) rfl rfl (pQ hh)) aX)) (by simp)) aX) (mZ (by simp;omega)))).trans ?_;refine(aZ (c8 (d:=nD (f hand)) (bM (a:=KD (FD line f)) (b:=nD hand) rfl rfl (pQ hh)))).trans ?_;show Out.nx [_,_,_,some (D.lst (ring.map (fT t)++[fT t hand])),_]=_;rw[Q0];rfl
   .cases k with
   |zero=>omega
   |succ k=>unfold Rg.jD;rw[if_pos hc];exact i2 k (by simp;omega)
  .refine⟨ring,hand,xU ?_,fun k hk=>?_⟩
   .by_cases hc1:first<hand
    .rw[decide_eq_true hc1]at c1;rw[decide_eq_false (fun z=>hc ⟨hc1,z⟩)]at c2;exact(oa c1).trans c2
    .rw[decide_eq_false hc1]at c1;exact rX c1
   .cases k with
   |zero=>omega
   |succ k=>unfold Rg.jD;rw[if_neg hc]
theorem MJ(hf:first∈line):tR [nD first,KD (FD line t),KD (FD line f)]=.ok (kR t (Rg.lK f line.length first)):=by
 refine dJ (B:=Al) (n:=5) ?_;unfold Al;have hpos:=R4 hf;obtain⟨ring',hand',h1,h2⟩:=LS (t:=t) (first:=first) hcl hn 64 [first] (f first) (hcl first hf) (by show 1<=_;omega) (by simp;omega);refine(aZ (c8 (d:=.lst ([first].map (fT t))) (gj (aR (kP (aR (d:=nD first) rfl (aR (bM (a:=KD (FD line t)) (b:=nD first) rfl rfl (pQ hf)) aX)) (by simp)) aX) (by simp)))).trans ?_;refine(aZ (c8 (d:=nD (f first)) (bM (a:=KD (FD line f)) (b:=nD first) rfl rfl (pQ hf)))).trans ?_;refine(aZ h1).trans ?_;have hr:Rg.lK f line.length first=if hand'=first then some ring' else none:=h2 _ (by simp;omega)
 rw[hr];have c:=dk (bM (f:=gv 4) (f':=gv 0) (r:=[some (nD first),some (KD (FD line t)),some (KD (FD line f)),some (.lst (ring'.map (fT t))),some (nD hand')]) (a:=nD hand') (b:=nD first) rfl rfl (j5 hand' first));by_cases e:hand'=first
 .rw[decide_eq_true e]at c;rw[if_pos e];exact cQ (dc ((vU c).trans (dW (aR (d:=.lst (ring'.map (fT t))) rfl aX) rfl)))
 .rw[decide_eq_false e]at c;rw[if_neg e];exact cQ (dc ((vT c).trans rfl))
end
structure Snd(rz:List (List Nat))(owns:List (Option Nat))(s:Rg.S):Prop where
 ok:Rg.Ok (Wr rz) (own owns) s
 inr:∀h∈s.line,h<rz.length
 ino:∀h∈s.line,h<owns.length
 wid:∀h∈s.line,(Wr rz h).length<=1000
 nl:s.line.length<=60
 nt:s.things.length<=60
section
variable{rz:List (List Nat)}{owns:List (Option Nat)}{s:Rg.S}
theorem Snd.tg(S:Snd rz owns s){h:Nat}(hh:h∈s.line):me [TN (Wr rz h),LN s.things]=.ok (nD (Rg.dF (Wr rz) s h)):=MG (S.ok.some_thing hh) (S.wid h hh)
theorem Snd.pts(S:Snd rz owns s){x h:Nat}(hh:h∈s.line):qP [OD owns,LN s.line,nD x]=.ok (nD (Rg.pt (own owns) s x)):=Oy S.ino (Rs hh)
abbrev tS(rz:List (List Nat))(s:Rg.S):Nat->Nat:=Rg.dF (Wr rz) s
abbrev fS(rz:List (List Nat))(owns:List (Option Nat))(s:Rg.S):Nat->Nat:=Rg.nxt (Wr rz) (own owns) s
theorem DE(S:Snd rz owns s):∀(suf pre:List Nat)(y:Option D),pre++suf=s.line ->
  ∃y',bT (cU 6) Gs (suf.map nD) [some (WD rz),some (OD owns),some (LN s.line),some (LN s.things),some (KD (FD pre (tS rz s))),some (KD (FD pre (fS rz owns s))),y,none]
   = .nx [some (WD rz),some (OD owns),some (LN s.line),some (LN s.things),some (KD (FD s.line (tS rz s))),some (KD (FD s.line (fS rz owns s))),y',none]
|[],pre,y,e=>⟨y,by rw[QX]at e;rw[e];exact jx⟩
|h::suf,pre,y,e=>by
  obtain⟨y',ih⟩:=DE S suf (pre++[h]) (some (nD h)) (by simpa using e);have hh:h∈s.line:=by rw[<-e];simp
  have hn:=S.ok.nl;rw[<-e]at hn;have hk:h∉pre:=fun z=>(RU.mp hn).2.2 h z h k_ rfl;have hpl:pre.length<=1000:=by have:=S.nl;rw[<-e]at this;simp at this;omega
  refine⟨y',?_⟩;rw[<-ih];refine jt (r1:=[some (WD rz),some (OD owns),some (LN s.line),some (LN s.things),some (KD (FD pre (tS rz s))),some (KD (FD pre (fS rz owns s))),some (nD h),none]) rfl ?_;have c1:gr (KD (FD pre (tS rz s))) (nD h) (nD (tS rz s h))=some (KD (FD (pre++[h]) (tS rz s))):=by rw[xA (by simpa using hpl),Ey (by rw[xO];exact hk)];unfold FD;rw[Q0];rfl
  have c2:gr (KD (FD pre (fS rz owns s))) (nD h) (nD (fS rz owns s h))=some (KD (FD (pre++[h]) (fS rz owns s))):=by rw[xA (by simpa using hpl),Ey (by rw[xO];exact hk)];unfold FD;rw[Q0];rfl
  refine(aZ (mT (d:=KD (FD pre (tS rz s))) (k:=nD h) (v:=nD (tS rz s h)) rfl (cW (aR (bM (a:=WD rz) (b:=nD h) rfl rfl (mC (C3 (S.inr h hh)))) (aR (d:=LN s.things) rfl aX)) (S.tg hh)) rfl c1)).trans ?_;refine(aZ (mT (d:=KD (FD pre (fS rz owns s))) (k:=nD h) (v:=nD (fS rz owns s h)) rfl (cW (aR (d:=OD owns) rfl (aR (d:=LN s.line) rfl (aR (bM (a:=KD (FD (pre++[h]) (tS rz s))) (b:=nD h) rfl rfl (pQ (by simp))) aX))) (S.pts hh)) rfl c2)).trans ?_;rfl
theorem xP{α:Type}(t:Nat->Nat)(f:α->Option (List Nat)):∀(l:List α),(((l.map f).filter X4).map (kR t))=(l.filterMap f).map (eu t)
|[]=>rfl
|a::l=>by rw[QE,Rk,Rb];cases e:f a with
 |none=>simpa using xP t f l
 |some r=>simpa[kR]using xP t f l
theorem Pb(t:Nat->Nat)(h:Nat):lW (fT t h)=some [(h:Int),(t h:Int)]:=rfl
theorem Ee(t:Nat->Nat):∀(ring:List Nat),ka (ring.map (fT t))=some (ring.map fun h:Nat=>[(h:Int),(t h:Int)])
|[]=>rfl
|h::ring=>by show(lW (fT t h)).bind _=_;rw[Pb,Ee t ring];rfl
theorem E5(t:Nat->Nat):∀(rs:List (List Nat)),(∀r∈rs,r≠[])->∃kss,l5 (rs.map (eu t))=some kss
|[],_=>⟨[],rfl⟩
|r::rs,h=>by obtain⟨kss,e⟩:=E5 t rs fun x hx=>h x (m_ _ hx);have hr:=h r k_;cases r with
 |nil=>exact absurd rfl hr
 |cons a r=>refine⟨((a::r).map fun h:Nat=>[(h:Int),(t h:Int)])::kss,?_⟩;show(ka ((a::r).map (fT t))).bind _=_;rw[Ee,e];rfl
theorem OG(t:Nat->Nat)(rs:List (List Nat))(h:∀r∈rs,r≠[])(hl:rs.length<64):∃rs':List (List Nat),rs'.Perm rs/\sj [.lst (rs.map (eu t))]=some (.lst (rs'.map (eu t))):=by
 obtain⟨kss,e⟩:=E5 t rs h;refine⟨(j9 (rs.map (eu t)).length fun i j=>gB (kss.getD i []) (kss.getD j [])).map fun i=>rs.getD i [],?_,?_⟩
 .have:=(zS (rs.map (eu t)).length fun i j=>gB (kss.getD i []) (kss.getD j [])).map fun i=>rs.getD i [];refine this.trans ?_;rw[p_];have e2:(C_ rs.length).map (fun i=>rs.getD i [])=rs:=by
   refine Wi fun i=>?_;rw[F_];by_cases hi:i<rs.length
   .rw[Uk hi];simp[g_ hi]
   .rw[TW (by simp;omega),TW (by omega)];rfl
  rw[e2]
 .show(l5 (rs.map (eu t))).bind _=_;rw[e];show(if _ then _ else _)=_;rw[if_pos (by rw[p_];exact hl)];unfold lR;rw[QT];congr 2;refine RD fun i hi=>?_;have hi:=yX hi;rw[p_]at hi;simp[List.getD,g_ hi]
theorem N6{W:Nat->List Nat}{O:Nat->Option Nat}:∀r∈Rg.iU W O s,r≠[]:=by intro r hr;obtain⟨x,_,h2⟩:=Rq.mp hr;exact Rg.DC h2
theorem Ml(t:Nat->Nat)(o:Option (List Nat)):iM (kR t o) .non=some (.bl o.isSome):=by cases o <;> rfl
theorem N9(S:Snd rz owns s):∃rs:List (List Nat),rs.Perm (Rg.iU (Wr rz) (own owns) s)/\uW [WD rz,OD owns,LN s.line,LN s.things]=.ok (.lst (rs.map (eu (tS rz s)))):=by
 obtain⟨y',hloop⟩:=DE S s.line [] none rfl;have hcl:∀h∈s.line,fS rz owns s h∈s.line:=fun h hh=>Rg.wZ (Rs hh);have hlen:(Rg.iU (Wr rz) (own owns) s).length<=s.line.length:=List.length_filterMap_le _ _;obtain⟨rs',hp,hs⟩:=OG (tS rz s) (Rg.iU (Wr rz) (own owns) s) N6 (by have:=S.nl;omega);refine⟨rs',hp,dJ (B:=AT) (n:=8) ?_⟩;unfold AT;refine(aZ (r':=[some (WD rz),some (OD owns),some (LN s.line),some (LN s.things),some (KD (FD [] (tS rz s))),none,none,none]) rfl).trans ?_;refine(aZ (r':=[some (WD rz),some (OD owns),some (LN s.line),some (LN s.things),some (KD (FD [] (tS rz s))),some (KD (FD [] (fS rz owns s))),none,none]) rfl).trans ?_;refine(aZ ((iC (ds:=s.line.map nD) rfl).trans hloop)).trans ?_;refine(aZ (c8 (jw (l:=s.line) nD (fun _=>true) (fun h=>kR (tS rz s) (Rg.lK (fS rz owns s) s.line.length h)) rfl (by have:=S.nl;omega) fun h hh=>⟨[some (nD h),some (KD (FD s.line (tS rz s))),some (KD (FD s.line (fS rz owns s)))],rfl,rfl,fun _=>cW (aR (d:=nD h) rfl (aR (d:=KD (FD s.line (tS rz s))) rfl (aR (d:=KD (FD s.line (fS rz owns s))) rfl aX))) (MJ hcl S.nl hh)⟩))).trans ?_;rw[na];refine cQ (dc (dW (aR (jw (l:=s.line.map (Rg.lK (fS rz owns s) s.line.length)) (kR (tS rz s)) X4 (kR (tS rz s)) ?_ (by have:=S.nl;simp;omega) fun o _=>⟨[some (kR (tS rz s) o)],rfl,dk (bM (a:=kR (tS rz s) o) (b:=.non) rfl rfl (Ml _ _)),fun _=>rfl⟩) aX) ?_))
 .rw[QT];rfl
 .rw[xP];exact hs
theorem BI{t:Nat->Nat}{line:List Nat}(hl:line.length<=60)(rg d:D):∀(ring L:List Nat)(kvs:List (Nat×Nat))(x y:Option D),GI t kvs L->(∀h∈L++ring,h∈line) ->∃kvs' x' y',GI t kvs' (L++ring)/\bT (ir (eJ (cU 3) (eJ (cU 4) il))) FK (ring.map (fT t)) [some rg,some (KD kvs),some d,x,y]=.nx [some rg,some (KD kvs'),some d,x',y']
|[],L,kvs,x,y,g,hs=>⟨kvs,x,y,by rw[QX];exact g,jx⟩
|h::ring,L,kvs,x,y,g,hs=>by obtain⟨kvs',x',y',g',ih⟩:=BI hl rg d ring (L++[h]) (putN kvs h (t h)) (some (nD h)) (some (nD (t h))) (g.put h) (by simpa using hs);refine⟨kvs',x',y',by simpa using g',?_⟩;rw[<-ih];have hk:=g.len (line:=line) fun x hx=>hs x (Rt _ hx);exact jt (r1:=[some rg,some (KD kvs),some d,some (nD h),some (nD (t h))]) rfl (aZ (mT (d:=KD kvs) (k:=nD h) (v:=nD (t h)) rfl rfl rfl (xA (by omega))))
theorem CB{t:Nat->Nat}{line:List Nat}(hl:line.length<=60)(rg:D):∀(rs:List (List Nat))(L:List Nat)(kvs:List (Nat×Nat))(z x y:Option D),GI t kvs L->(∀h∈L++rs.flatten,h∈line) ->∃kvs' z' x' y',GI t kvs' (L++rs.flatten)/\bT (cU 2) FL (rs.map (eu t)) [some rg,some (KD kvs),z,x,y]=.nx [some rg,some (KD kvs'),z',x',y']
|[],L,kvs,z,x,y,g,hs=>⟨kvs,z,x,y,by simpa using g,jx⟩
|r::rs,L,kvs,z,x,y,g,hs=>by
  obtain⟨kvs1,x1,y1,g1,h1⟩:=BI hl rg (eu t r) r L kvs x y g fun h hh=>hs h (by
   rw[Rm];rcases QW.mp hh with q|q
   .exact Rt _ q
   .exact H_ _ (Rt _ q))
  obtain⟨kvs',z',x',y',g',ih⟩:=CB hl rg rs (L++r) kvs1 (some (eu t r)) x1 y1 g1 (by rw[Ry];simpa using hs);refine⟨kvs',z',x',y',by rw[Ry]at g';simpa using g',?_⟩;rw[<-ih];exact jt (r1:=[some rg,some (KD kvs),some (eu t r),x,y]) rfl (aZ ((iC (ds:=r.map (fT t)) rfl).trans h1))
theorem sJ{t:Nat->Nat}{line:List Nat}{rs:List (List Nat)}(hl:line.length<=60)(hs:∀h∈rs.flatten,h∈line):∃kvs,GI t kvs rs.flatten/\hW [.lst (rs.map (eu t))]=.ok (KD kvs):=by obtain⟨kvs',z',x',y',g',h⟩:=CB hl (.lst (rs.map (eu t))) rs [] [] none none none ⟨by simp,fun _ hp=>(nomatch hp),fun h=>by simp⟩ (by simpa using hs);refine⟨kvs',by simpa using g',dJ (B:=yN) (n:=5) ?_⟩;unfold yN;refine(aZ (r':=[some (.lst (rs.map (eu t))),some (KD []),none,none,none]) rfl).trans ?_;refine(aZ ((iC (ds:=rs.map (eu t)) rfl).trans h)).trans ?_;exact cQ (dc (d:=KD kvs') rfl)
end
section
variable{rz:List (List Nat)}{owns:List (Option Nat)}
inductive Ch(rz:List (List Nat))(owns:List (Option Nat)):Rg.S->List (List (List Nat)×Rg.S)->Prop where
 |nil {s:Rg.S}:s.line=[]->Ch rz owns s []
 |cons {s:Rg.S} {rs:List (List Nat)} {l:List (List (List Nat)×Rg.S)}:rs.Perm (Rg.iU (Wr rz) (own owns) s)->Ch rz owns (Rg.minus (Wr rz) s rs.flatten) l->Ch rz owns s ((rs,s)::l)
abbrev js(rz:List (List Nat))(p:List (List Nat)×Rg.S):D:=.lst (p.1.map (eu (tS rz p.2)))
theorem Ev{s:Rg.S}{rs:List (List Nat)}(hp:rs.Perm (Rg.iU (Wr rz) (own owns) s)):Rg.Cyc (Wr rz) (own owns) s rs.flatten:=Rg.DD (fun h hh=>by obtain⟨r,h1,h2⟩:=Sy.mp hh;exact⟨r,hp.mem_iff.mp h1,h2⟩) (fun r hr h hh=>Sy.mpr ⟨r,hp.mem_iff.mpr hr,hh⟩)
theorem Snd.minus{s:Rg.S}(S:Snd rz owns s){C:List Nat}(c:Rg.Cyc (Wr rz) (own owns) s C):Snd rz owns (Rg.minus (Wr rz) s C) where
 ok:=Rg.sw S.ok c
 inr:=fun h hh=>S.inr h (t_.mp hh).1
 ino:=fun h hh=>S.ino h (t_.mp hh).1
 wid:=fun h hh=>S.wid h (t_.mp hh).1
 nl:=QI (S0 _ _) S.nl
 nt:=QI (S0 _ _) S.nt
theorem Nt{s:Rg.S}{C:List Nat}(c:Rg.Cyc (Wr rz) (own owns) s C)(hne:C≠[]):(Rg.minus (Wr rz) s C).line.length<s.line.length:=by obtain⟨x,hx⟩:=Se _ hne;have:=Rg.t8 (fun h=>decide (h∉C)) s.line;have h3:0<(s.line.filter fun h=>! decide (h∉C)).length:=R4 (t_.mpr ⟨c.sub x hx,by simpa using hx⟩);show(s.line.filter _).length<_;omega
theorem PP{s:Rg.S}{rs:List (List Nat)}(hp:rs.Perm (Rg.iU (Wr rz) (own owns) s))(hne:s.line≠[]):rs.flatten≠[]:=by obtain⟨x,hx⟩:=Se _ (Rg.Da (W:=Wr rz) (O:=own owns) hne);obtain⟨r,h1,h2⟩:=Sy.mp hx;exact Rs (Sy.mpr ⟨r,hp.mem_iff.mpr h1,h2⟩)
theorem wC{kvs:List (Nat×Nat)}{L:List Nat}{t:Nat->Nat}(g:GI t kvs L)(h:Nat):fj (nD h) (KD kvs)=some (.bl (decide (h∉L))):=by
 show(some (fu _ (kI h))).map (fun b=>D.bl (! b))=_;have e:fu (kvs.map fun p=>(kI p.1,nD p.2)) (kI h)=decide (h∈kvs.map (·.1)):=rB kvs h;rw[e];have:decide (h∈kvs.map (·.1))=decide (h∈L):=by rw[decide_eq_decide];exact g.key h
 rw[this];show some (D.bl (! decide (h∈L)))=_;rw[decide_not]
theorem GI.vals{kvs:List (Nat×Nat)}{L:List Nat}{t:Nat->Nat}(g:GI t kvs L)(x:Nat):x∈kvs.map (·.2)↔x∈L.map t:=by
 constructor
 .intro hx;obtain⟨p,h1,rfl⟩:=B_.mp hx;exact B_.mpr ⟨p.1,(g.key _).mp (B_.mpr ⟨p,h1,rfl⟩),(g.val p h1).symm⟩
 .intro hx;obtain⟨h,h1,rfl⟩:=B_.mp hx;obtain⟨p,h2,rfl⟩:=B_.mp ((g.key h).mpr h1);exact B_.mpr ⟨p,h2,g.val p h2⟩
theorem Ce{kvs:List (Nat×Nat)}{L:List Nat}{t:Nat->Nat}(g:GI t kvs L)(x:Nat):fj (nD x) (LN (kvs.map (·.2)))=some (.bl (decide (x∉L.map t))):=by rw[wY,decide_not];congr 3;rw[decide_eq_decide];exact g.vals x
theorem KM(od:D):∀(j:Nat)(s:Rg.S)(told:List D)(x y z:Option D),Snd rz owns s->s.line.length<j->told.length+s.line.length<=60 ->
  ∃(s':Rg.S)(l:List (List (List Nat)×Rg.S))(x' y' z':Option D),Ch rz owns s l/\l.length<=s.line.length /\
   hV iF Fw FM j [some (WD rz),some (OD owns),some od,some (LN s.line),some (LN s.things),some (.lst told),x,y,z]
    = .nx [some (WD rz),some (OD owns),some od,some (LN s'.line),some (LN s'.things),some (.lst (told++l.map (js rz))),x',y',z']:=by
 intro j
 induction j with
|zero=>intro s told x y z _ h;omega
|succ j ih=>
  intro s told x y z S hj ht;by_cases hne:s.line=[]
  .refine⟨s,[],x,y,z,.nil hne,QU _,?_⟩;rw[R3,QX];refine xU (gW (d:=LN s.line) rfl ?_);rw[hne];rfl
  .obtain⟨rs,hp,hr⟩:=N9 S;have c:=Ev hp;obtain⟨kvs,g,hg⟩:=sJ (t:=tS rz s) S.nl c.sub;have hlt:=Nt c (PP hp hne);obtain⟨s',l,x',y',z',h1,h2,h3⟩:=ih (Rg.minus (Wr rz) s rs.flatten) (told++[js rz (rs,s)]) (some (js rz (rs,s))) (some (KD kvs)) (some (LN (kvs.map (·.2)))) (S.minus c) (by omega) (by simp;omega);refine⟨s',(rs,s)::l,x',y',z',.cons hp h1,by simp;omega,?_⟩;rw[Ry]at h3;rw[QE];refine Eq.trans (xV (gW (b:=true) (d:=LN s.line) rfl ?_) ?_) h3
   .cases q:s.line with
   |nil=>exact absurd q hne
   |cons a t=>rfl
   .refine(aZ (c8 (cW (aR (d:=WD rz) rfl (aR (d:=OD owns) rfl (aR (d:=LN s.line) rfl (aR (d:=LN s.things) rfl aX)))) hr))).trans ?_;refine(aZ (c8 (cW (aR (d:=.lst (rs.map (eu (tS rz s)))) rfl aX) hg))).trans ?_;refine(aZ (c8 (d:=LN (kvs.map (·.2))) (rN (a:=KD kvs) rfl ?_))).trans ?_
    .rw[e_valsD,QT];show some (D.lst _)=some (D.lst ((kvs.map (·.2)).map nD));rw[QT];rfl
    refine(aZ (c8 (jw (l:=s.line) nD (fun h=>decide (h∉rs.flatten)) nD rfl (by have:=S.nl;omega) fun h hh=>⟨[some (nD h),some (KD kvs)],rfl,dk (bM (a:=nD h) (b:=KD kvs) rfl rfl (wC g h)),fun _=>rfl⟩))).trans ?_;refine(aZ (c8 (jw (l:=s.things) nD (fun x=>decide (x∉rs.flatten.map (tS rz s))) nD rfl (by have:=S.nt;omega) fun h hh=>⟨[some (nD h),some (LN (kvs.map (·.2)))],rfl,dk (bM (a:=nD h) (b:=LN (kvs.map (·.2))) rfl rfl (Ce g h)),fun _=>rfl⟩))).trans ?_;refine(aZ (kQ (d:=.lst told) (ds:=[js rz (rs,s)]) rfl rfl (aR (d:=js rz (rs,s)) rfl aX) (mZ (by omega)))).trans ?_;rfl
def fg:Option (List Nat)->D
|none=>.non
|some l=>LN l
def s0(rz:List (List Nat))(o:Option (List Nat)):Rg.S:=⟨o.getD (C_ rz.length),C_ (rz.headD []).length⟩
theorem FG{o:Option (List Nat)}(ho:∀l,o=some l->l.Nodup/\(∀k∈l,k<rz.length)/\l.length=rz.length)(h8:rz.length<=60):mh [WD rz,fg o]=.ok (LN (s0 rz o).line):=by cases o with
|none=>exact P5 (by omega)
|some l=>obtain⟨h1,h2,h3⟩:=ho l rfl;exact N8 h1 h2 h3 (by omega)
theorem Oz{o:Option (List Nat)}(ho:∀l,o=some l->l.Nodup/\(∀k∈l,k<rz.length)/\l.length=rz.length)(hr:rz≠[])(h8:rz.length<=60)(S:Snd rz owns (s0 rz o)):∃l,Ch rz owns (s0 rz o) l/\l.length<=60/\p0 [WD rz,OD owns,fg o]=.ok (.lst (l.map (js rz))):=by obtain⟨s',l,x',y',z',h1,h2,h3⟩:=KM (rz:=rz) (owns:=owns) (fg o) 64 (s0 rz o) [] none none none S (by have:=S.nl;omega) (by have:=S.nl;simp;omega);refine⟨l,h1,by have:=S.nl;omega,dJ (B:=sO) (n:=9) ?_⟩;unfold sO;cases rz with
|nil=>exact absurd rfl hr
|cons row rest=>refine(aZ (c8 (cW (aR (d:=WD (row::rest)) rfl (aR (d:=fg o) rfl aX)) (FG ho h8)))).trans ?_;refine(aZ (c8 (d:=LN (s0 (row::rest) o).things) (dW (aR (cW (aR (d:=WD (row::rest)) rfl aX) zR) aX) (xY (by have:=S.nt;unfold s0 at this;simp at this;omega))))).trans ?_;refine(aZ (c8 (d:=.lst []) (gj aX (by simp)))).trans ?_;refine(aZ h3).trans ?_;exact cQ (dc (d:=.lst (l.map (js (row::rest)))) rfl)
theorem DH:∀(more kvs:List (Nat×Nat)),pT (kvs.map fun p=>(kI p.1,nD p.2)) (more.map fun p=>(kI p.1,nD p.2))=(more.foldl (fun acc p=>putN acc p.1 p.2) kvs).map fun p=>(kI p.1,nD p.2)
|[],kvs=>rfl
|p::more,kvs=>by have ih:=DH more (putN kvs p.1 p.2);rw[WU,<-ih,<-C0];rfl
theorem Ep{t:Nat->Nat}:∀(more kvs:List (Nat×Nat))(L:List Nat),GI t kvs L->(∀p∈more,p.2=t p.1)->GI t (more.foldl (fun acc p=>putN acc p.1 p.2) kvs) (L++more.map (·.1))
|[],kvs,L,g,_=>by simpa using g
|p::more,kvs,L,g,h=>by have:=Ep more (putN kvs p.1 p.2) (L++[p.1]) (by rw[h p k_];exact g.put p.1) fun q hq=>h q (m_ _ hq);rw[Ry]at this;exact this
theorem Dn{a:Nat->Nat}{line:List Nat}(hl:line.length<=60)(od:D):∀(l:List (List (List Nat)×Rg.S))(L:List Nat)(kvs:List (Nat×Nat))(z:Option D),GI a kvs L->(∀h∈L,h∈line) ->(∀p∈l,∀h∈p.1.flatten,a h=tS rz p.2 h/\h∈line) ->∃kvs' z',GI a kvs' (L++l.flatMap fun p=>p.1.flatten)/\bT (cU 4) Gc (l.map (js rz)) [some (WD rz),some (OD owns),some od,some (KD kvs),z]=.nx [some (WD rz),some (OD owns),some od,some (KD kvs'),z']
|[],L,kvs,z,g,_,_=>⟨kvs,z,by simpa using g,jx⟩
|p::l,L,kvs,z,g,hL,hp=>by
  have h0:=hp p k_;obtain⟨more,g1,hg⟩:=sJ (t:=tS rz p.2) (rs:=p.1) hl fun h hh=>(h0 h hh).2;have g2:=g1.congr (t':=a) fun x hx=>(h0 x hx).1;have g3:=(Ep more kvs L g g2.val).mem (M:=L++p.1.flatten) fun x=>by rw[QW,QW,g2.key]
  obtain⟨kvs',z',g',ih⟩:=Dn hl od l (L++p.1.flatten) _ (some (js rz p)) g3 (fun h hh=>by
   rcases QW.mp hh with q|q
   .exact hL h q
   .exact(h0 h q).2) fun q hq=>hp q (m_ _ hq)
  refine⟨kvs',z',by rw[Ry]at g';simpa using g',?_⟩;rw[<-ih];refine jt (r1:=[some (WD rz),some (OD owns),some od,some (KD kvs),some (js rz p)]) rfl (aZ (kQ (d:=KD kvs) (ds:=[KD more]) rfl rfl (aR (cW (aR (d:=js rz p) rfl aX) hg) aX) ?_));have l1:=g.len hL;have l2:=g1.len (line:=line) fun h hh=>(h0 h hh).2;show(if _ then some (D.dic (pT _ _))else none)=_;rw[if_pos (by rw[p_,p_,QK];omega),DH]
theorem JS{a:Nat->Nat}{s:Rg.S}{l:List (List (List Nat)×Rg.S)}(c:Ch rz owns s l):Rg.Ok (Wr rz) (own owns) s->Rg.TTC (Wr rz) (own owns) a s->(∀p∈l,∀h∈p.1.flatten,a h=tS rz p.2 h/\h∈s.line)/\∀h∈s.line,∃p∈l,h∈p.1.flatten:=by induction c with
|nil h0=>exact fun _ _=>⟨fun _ hp=>(nomatch hp),fun h hh=>by rw[h0]at hh;cases hh⟩
|@cons s rs l hp c ih=>
  intro k t;have cy:=Ev hp;obtain⟨t1,t2⟩:=Rg.xH t k cy;obtain⟨i1,i2⟩:=ih (Rg.sw k cy) t1;refine⟨fun p hp' h hh=>?_,fun h hh=>?_⟩
  .rcases w_.mp hp' with rfl|q
   .exact⟨t2 h hh,cy.sub h hh⟩
   .exact⟨(i1 p q h hh).1,(t_.mp (i1 p q h hh).2).1⟩
  .by_cases hc:h∈rs.flatten
   .exact⟨(rs,s),k_,hc⟩
   .obtain⟨p,h1,h2⟩:=i2 h (t_.mpr ⟨hh,by simpa using hc⟩);exact⟨p,m_ _ h1,h2⟩
theorem Py{o:Option (List Nat)}{a:Nat->Nat}(ho:∀l,o=some l->l.Nodup/\(∀k∈l,k<rz.length)/\l.length=rz.length)(hr:rz≠[])(h8:rz.length<=60)(S:Snd rz owns (s0 rz o))(hall:∀h,h<rz.length->h∈(s0 rz o).line)(t:Rg.TTC (Wr rz) (own owns) a (s0 rz o)):nk [WD rz,OD owns,fg o]=.ok (TN ((C_ rz.length).map a)):=by
 obtain⟨l,hc,hl,hrun⟩:=Oz ho hr h8 S;obtain⟨c1,c2⟩:=JS hc S.ok t;obtain⟨kvs',z',g,hloop⟩:=Dn (rz:=rz) (owns:=owns) (a:=a) S.nl (fg o) l [] [] none ⟨by simp,fun _ hp=>(nomatch hp),fun h=>by simp⟩ (fun _ hh=>(nomatch hh)) c1;refine dJ (B:=qh) (n:=5) ?_;unfold qh;refine(aZ (r':=[some (WD rz),some (OD owns),some (fg o),some (KD []),none]) rfl).trans ?_;refine(aZ ((iC (ds:=l.map (js rz)) (C7 (cW (aR (d:=WD rz) rfl (aR (d:=OD owns) rfl (aR (d:=fg o) rfl aX))) hrun) rfl)).trans hloop)).trans ?_;refine cQ (dc (cW (aR (d:=KD kvs') rfl aX) (Gi g (n:=rz.length) (fun x=>?_) h8)));rw[WV,List.mem_flatMap];constructor
 .rintro⟨p,h1,h2⟩
  exact S.inr x (c1 p h1 x h2).2
 .intro hx;obtain⟨p,h1,h2⟩:=c2 x (hall x hx);exact⟨p,h1,h2⟩
end
theorem lY{a b:Nat}(h:0<b):cP (nD a) (nD b)=some (nD (a%b)):=by rw[DJ (by omega:(0:Int)<(b:Int))];show some (D.int _)=some (D.int _);rw[Int.natCast_emod]
theorem sD{a b:Nat}(h:0<b)(h2:b<1000):iV (nD a) (nD b)=some (nD (a/b)):=by rw[EE (⟨by omega,by omega⟩:iT (a:Int) (b:Int))];show some (D.int _)=some (D.int _);rw[WI]
theorem lU(a b:Nat):addA (nD a) (nD b)=some (nD (a+b)):=by rw[addA_int];show some (D.int _)=some (D.int _);rw[W1]
section
variable{f f':FE}{r:aS}
theorem oh{b:Int}(h:∃i:Int,f r=.ok (.int i))(h':f' r=.ok (.int b))(hb:0<b):∃c:Nat,f2 f f' cP r=.ok (nD c):=by obtain⟨i,hi⟩:=h;refine⟨(i%b).toNat,bM hi h' ?_⟩;rw[DJ hb];show some (D.int _)=some (D.int _);rw[VO (Int.emod_nonneg _ (by omega))]
theorem Gz(h:∃c:Nat,f r=.ok (nD c)):∃i:Int,f r=.ok (.int i):=let⟨c,e⟩:=h;⟨c,e⟩
theorem mM{b:Int}(h:∃i:Int,f r=.ok (.int i))(h':f' r=.ok (.int b))(hb : -(2^64)<b/\b<2^64):∃i:Int,f2 f f' fm r=.ok (.int i):=by obtain⟨i,hi⟩:=h;exact⟨i*b,bM hi h' (KZ (.inr hb))⟩
theorem rM(h:∃i:Int,f r=.ok (.int i))(h':∃i:Int,f' r=.ok (.int i)):∃i:Int,f2 f f' addA r=.ok (.int i):=by obtain⟨i,hi⟩:=h;obtain⟨j,hj⟩:=h';exact⟨i+j,bM hi hj rfl⟩
end
theorem BU{m:List Md}{i:Nat}{f:FE}{s2:FS}{r:aS}(h:∃c:Nat,f r=.ok (nD c))(k:∀c:Nat,∃d:Nat,s2 (r.set i (some (nD c)))=.rt (nD d)):∃d:Nat,seqF (aV m i f) s2 r=.rt (nD d):=by obtain⟨c,hc⟩:=h;obtain⟨d,hd⟩:=k c;exact⟨d,(aZ (c8 hc)).trans hd⟩
abbrev IN(ns:List Int):D:=.lst (ns.map .int)
theorem sV(ns:List Int)(k:Nat)(hk:k<=1000):∃c:Nat,k9 [IN ns,nD k]=.ok (nD c):=by
 suffices h:∃c:Nat,uA (cO 4 [IN ns,nD k])=.rt (nD c)by obtain⟨c,hc⟩:=h;exact⟨c,dJ (B:=uA) (n:=4) hc⟩
 unfold uA;have st:seqF (aV d7 2 (ci 0))=seqF (aV d7 2 (fun _=>Res.ok (nD 0))):=rfl;rw[st];refine BU ⟨0,rfl⟩ fun c1=>?_;show ∃d:Nat,seqF _ _ [some (IN ns),some (nD k),some (nD c1),none]=_;have key:∃c2:Nat,(d8 d7 (bW (f2 (gv 1) (fC (aP (gv 0) aN) lenD) ku)) (seqF (aV d7 2 (f2 (f2 (gv 0) (gv 1) dj) (f2 (ci 10) (ci 60) je) cP)) bN) bN) [some (IN ns),some (nD k),some (nD c1),none]=.nx [some (IN ns),some (nD k),some (nD c2),none]:=by
  have t:=dk (bM (f:=gv 1) (r:=[some (IN ns),some (nD k),some (nD c1),none]) (a:=nD k) rfl (dW (aR (f:=gv 0) (d:=IN ns) rfl aX) (m7 _ _)) (wB k ns.length));by_cases hlt:k<ns.length
  .rw[decide_eq_true hlt]at t;have hx:(ns.map D.int)[k]? = some (.int ns[k]):=by rw[F_,g_ hlt];rfl
   have hp:je (.int 10) (.int 60)=some (.int (10^60)):=by show lM jn _ _ _=_;rw[intsC_int,if_pos (by unfold jn;decide)];rfl
   obtain⟨c2,h2⟩:=oh (f:=f2 (gv 0) (gv 1) dj) (f':=f2 (ci 10) (ci 60) je) (r:=[some (IN ns),some (nD k),some (nD c1),none]) ⟨ns[k],bM (a:=IN ns) (b:=nD k) rfl rfl (pI hx)⟩ (bM rfl rfl hp) (by decide);exact⟨c2,(dI t).trans ((aZ (c8 h2)).trans rfl)⟩
  .rw[decide_eq_false hlt]at t;exact⟨c1,(db t).trans rfl⟩
 obtain⟨c2,h2⟩:=key;rw[aZ h2];have kq:∃b,(fL (bW (f2 (fC (aP (gv 0) aN) lenD) (ci 0) kx)) (bW (f2 (f2 (f2 (gv 0) (ci 0) dj) (ci 2) cP) (ci 0) eqD))) [some (IN ns),some (nD k),some (nD c2),none]=.ok b:=by have t:=dk (bM (f:=fC (aP (gv 0) aN) lenD) (f':=fun _=>Res.ok (D.int 0)) (r:=[some (IN ns),some (nD k),some (nD c2),none]) (b:=nD 0) (dW (aR (d:=IN ns) rfl aX) (m7 _ _)) rfl (rR ns.length 0));cases ns with
 |nil=>exact⟨false,rX t⟩
 |cons a ns=>rw[decide_eq_true (by simp)]at t;obtain⟨c3,h3⟩:=oh (f:=f2 (gv 0) (ci 0) dj) (f':=fun _=>Res.ok (D.int 2)) (r:=[some (IN (a::ns)),some (nD k),some (nD c2),none]) ⟨a,bM (a:=IN (a::ns)) (b:=.int 0) rfl rfl (ixA_L0 _ _)⟩ rfl (by decide);exact⟨_,(oa t).trans (dk (bM h3 (b:=nD 0) rfl (j5 c3 0)))⟩
 obtain⟨b,hb⟩:=kq;cases b with
|true=>exact⟨c2,cQ ((dI hb).trans (cQ (dc (d:=nD c2) rfl)))⟩
|false=>rw[aZ ((db (s2:=bN) hb).trans (e_skip _))];refine BU (oh (mM (Gz (oh (mM (rM (rM (rM ⟨(c2:Int),rfl⟩ (mM (b:=(k:Int)) (mM (b:=(k:Int)) ⟨7,rfl⟩ rfl (by omega)) rfl (by omega))) (mM (b:=(k:Int)) ⟨13,rfl⟩ rfl (by omega))) ⟨5,rfl⟩) rfl (by decide)) rfl (by decide))) rfl (by decide)) rfl (by decide)) fun c3=>?_;obtain⟨c4,h4⟩:=oh (f:=(f2 (f2 (f2 (f2 (gv 3) (ci 1) addA) (ci 40692) fm) (ci 2147483629) cP) (ci 39373) fm)) (f':=fun _=>Res.ok (D.int 999999937)) (r:=[some (IN ns),some (nD k),some (nD c2),some (nD c3)]) (mM (Gz (oh (mM (rM ⟨(c3:Int),rfl⟩ ⟨1,rfl⟩) rfl (by decide)) rfl (by decide))) rfl (by decide)) rfl (by decide);exact⟨c4,cQ (dc h4)⟩
theorem Mj{row:List Nat}{i:Int}{x:Nat}:dP (row.map nD) i (nD x)=(dP row i x).map nD:=by unfold dP;rw[p_,Q0,QE,X5,X6]
theorem NA{row:List Nat}{i:Int}{x:Nat}:(dP row i x).Perm (x::row):=by unfold dP;refine List.perm_middle.trans ?_;rw[S1]
theorem D9(m:Nat):∀(j i c:Nat)(row:List Nat)(x:Option D),row.Perm (C_ i)->i+j<=60 ->∃(c':Nat)(row':List Nat)(x':Option D),row'.Perm (C_ (i+j))/\bT (cU 3) Gb ((List.range' i j).map nD) [some (nD c),some (nD m),some (LN row),x]=.nx [some (nD c'),some (nD m),some (LN row'),x']
|0,i,c,row,x,hp,_=>⟨c,row,x,hp,jx⟩
|j+1,i,c,row,x,hp,hl=>by
  have hlen:row.length=i:=by rw[hp.length_eq];simp
  obtain⟨c',row',x',h1,h2⟩:=D9 m j (i+1) (c/(i+1)) (dP row ((c%(i+1):Nat):Int) i) (some (nD i)) (by refine NA.trans ?_;rw[W0];exact(List.Perm.cons i hp).trans (List.perm_append_singleton i _).symm) (by omega);refine⟨c',row',x',by rw[show i+(j+1)=i+1+j by omega];exact h1,?_⟩;rw[<-h2];have hmod:c%(i+1)<i+1:=Td _ (by omega);refine jt (r1:=[some (nD c),some (nD m),some (LN row),some (nD i)]) rfl ?_;refine(aZ (kQ (d:=LN row) (ds:=[nD (c%(i+1)),nD i]) (d':=LN (dP row ((c%(i+1):Nat):Int) i)) rfl rfl (aR (bM (a:=nD c) (b:=nD (i+1)) rfl (bM (a:=nD i) (b:=nD 1) rfl rfl (lU i 1)) (lY (by omega))) (aR (d:=nD i) rfl aX)) ?_)).trans ?_
  .show(if _ then some (D.lst (dP _ _ _))else none)=_;rw[if_pos ⟨by rw[p_,QK];omega,by omega,by omega⟩,Mj]
  .exact aZ (c8 (d:=nD (c/(i+1))) (bM (a:=nD c) (b:=nD (i+1)) rfl (bM (a:=nD i) (b:=nD 1) rfl rfl (lU i 1)) (sD (by omega) (by omega))))
theorem DF(c m:Nat)(hm:m<=60):∃row:List Nat,row.Perm (C_ m)/\nj [nD c,nD m]=.ok (TN row):=by obtain⟨c',row',x',h1,h2⟩:=D9 m m 0 c [] none (by simp) (by omega);rw[Wg]at h1;rw[<-List.range_eq_range']at h2;refine⟨row',h1,dJ (B:=Aa) (n:=4) ?_⟩;unfold Aa;refine(aZ (c8 (d:=LN []) (gj aX (by simp)))).trans ?_;refine(aZ ((iC (ds:=(C_ m).map nD) (oy (aR (d:=nD m) rfl aX) (pV (by omega)))).trans h2)).trans ?_;exact cQ (dc (dW (aR (d:=LN row') rfl aX) rfl))
theorem OC(ns:List Int)(at' n m:Nat)(ha:at'<=60)(hn:n<=60)(hm:m<=60):∃rz:List (List Nat),rz.length=n/\(∀row∈rz,row.Perm (C_ m))/\uE [IN ns,nD at',nD n,nD m]=.ok (WD rz):=by
 have h:∀h:Nat,∃row:List Nat,h<=60->row.Perm (C_ m)/\∃c:Nat,k9 [IN ns,nD (at'+h)]=.ok (nD c)/\nj [nD c,nD m]=.ok (TN row):=by
  intro h;by_cases hh:h<=60
  .obtain⟨c,hc⟩:=sV ns (at'+h) (by omega);obtain⟨row,h1,h2⟩:=DF c m hm;exact⟨row,fun _=>⟨h1,c,hc,h2⟩⟩
  .exact⟨[],fun z=>absurd z hh⟩
 obtain⟨g,hg⟩:=Classical.axiomOfChoice h;refine⟨(C_ n).map g,by simp,fun row hr=>?_,dJ (B:=AL) (n:=4) ?_⟩
 .obtain⟨i,hi,rfl⟩:=B_.mp hr;exact(hg i (by have:=QJ.mp hi;omega)).1
 .unfold AL;refine cQ (dc (dW (aR (jw (l:=C_ n) nD (fun _=>true) (fun h=>TN (g h)) (oy (aR (d:=nD n) rfl aX) (pV (by omega))) (by simp;omega) fun h hh=>⟨[some (nD h),some (nD m),some (IN ns),some (nD at')],rfl,rfl,fun _=>?_⟩) aX) ?_))
  .obtain⟨_,c,h1,h2⟩:=hg h (by have:=QJ.mp hh;omega);exact cW (aR (cW (aR (d:=IN ns) rfl (aR (bM (a:=nD at') (b:=nD h) rfl rfl (lU at' h)) aX)) h1) (aR (d:=nD m) rfl aX)) h2
  .rw[na,e_tupL];show some (D.tup _)=some (D.tup _);rw[QT];rfl
structure Own(owns:List (Option Nat))(m:Nat):Prop where
 lt:∀x,some x∈owns->x<m
 inj:∀h k x,own owns h=some x->own owns k=some x->h=k
theorem xZ{owns:List (Option Nat)}{h x:Nat}(e:own owns h=some x):some x∈owns/\h<owns.length:=by unfold own at e;cases q:owns[h]? with
|none=>rw[q]at e;cases e
|some o=>rw[q]at e;have:o=some x:=e;subst this;exact⟨Q1 q,(c_.mp q).1⟩
theorem DS{owns:List (Option Nat)}{o:Option Nat}{h:Nat}:own (owns++[o]) h=if h<owns.length then own owns h else if h=owns.length then o else none:=by
 unfold own;by_cases q:h<owns.length
 .rw[if_pos q,I_ q]
 .rw[if_neg q,Q6 (by omega)];by_cases z:h=owns.length
  .subst z;simp
  .rw[if_neg z,TW (by simp;omega)];rfl
theorem Own.app_none{owns:List (Option Nat)}{m:Nat}(w:Own owns m):Own (owns++[none]) m where
 lt:=fun x hx=>w.lt x (by simpa using hx)
 inj:=fun h k x h1 h2=>by
  rw[DS]at h1 h2;have f:∀h,(if h<owns.length then own owns h else if h=owns.length then none else none)=some x->own owns h=some x:=by
   intro h e;split at e
   .exact e
   .split at e <;> cases e
  exact w.inj h k x (f h h1) (f k h2)
theorem Own.app_some{owns:List (Option Nat)}{m t:Nat}(w:Own owns m)(ht:t<m)(hn:some t∉owns):Own (owns++[some t]) m where
 lt:=fun x hx=>by
  rcases QW.mp hx with z|z
  .exact w.lt x z
  .simp at z;omega
 inj:=fun h k x h1 h2=>by
  rw[DS]at h1 h2;split at h1 <;> split at h2
  .exact w.inj h k x h1 h2
  .split at h2
   .cases h2;exact absurd (xZ h1).1 hn
   .cases h2
  .split at h1
   .cases h1;exact absurd (xZ h2).1 hn
   .cases h1
  .split at h1
   .split at h2
    .omega
    .cases h2
   .cases h1
theorem By(l:List (Option Nat))(k:Nat):(l.map oD).any (fun y=>fZ y (nD k))=decide (some k∈l):=by
 rw[Uq,P_,T3,decide_eq_true_iff];constructor
 .rintro⟨x,h1,h2⟩
  cases x with
 |none=>cases h2
 |some x=>have:(((x:Nat):Int)==(k:Int))=true:=h2;have:=T8.mp (RK this);subst this;exact h1
 .intro h;exact⟨some k,h,by show(((k:Nat):Int)==(k:Int))=true;simp⟩
theorem Hu(l:List (Option Nat)):(l.map oD).all dX=true:=by rw[RL];intro x hx;obtain⟨k,_,rfl⟩:=B_.mp hx;cases k <;> rfl
theorem HA(l:List (Option Nat))(k:Nat):iN (nD k) (.lst (l.map oD))=some (.bl (decide (some k∈l))):=by show(if dX (nD k)=true/\(l.map oD).all dX=true then some ((l.map oD).any fun y=>fZ y (nD k))else none).map D.bl=_;rw[if_pos ⟨rfl,Hu l⟩,By];rfl
structure Scene(rz:List (List Nat))(owns:List (Option Nat))(o:Option (List Nat))(n m:Nat):Prop where
 n1:1<=n
 n7:n<=7
 nm:n<=m
 m8:m<=8
 rl:rz.length=n
 rp:∀row∈rz,row.Perm (C_ m)
 ow:Own owns m
 ol:owns.length=n
 op:∀l,o=some l->l.Perm (C_ n)
theorem DR(n m:Nat)(hm:m<=60):∀(l:List Nat)(c:Nat)(owns:List (Option Nat))(x y:Option D),Own owns m->owns.length+l.length<=60 ->∃(c':Nat)(owns':List (Option Nat))(x' y':Option D),Own owns' m/\owns'.length=owns.length+l.length/\bT (cU 4) Ay (l.map nD) [some (nD c),some (nD n),some (nD m),some (.lst (owns.map oD)),x,y]=.nx [some (nD c'),some (nD n),some (nD m),some (.lst (owns'.map oD)),x',y']
|[],c,owns,x,y,w,_=>⟨c,owns,x,y,w,rfl,jx⟩
|h::l,c,owns,x,y,w,hl=>by
  have hmod:c%(m+1)<m+1:=Td _ (by omega);have step:∃o,Own (owns++[o]) m/\Ay [some (nD c),some (nD n),some (nD m),some (.lst (owns.map oD)),some (nD h),y]=.nx [some (nD (c/(m+1))),some (nD n),some (nD m),some (.lst ((owns++[o]).map oD)),some (nD h),some (nD (c%(m+1)))]:=by
   have t1:=dk (bM (f:=gv 5) (f':=gv 2) (r:=[some (nD (c/(m+1))),some (nD n),some (nD m),some (.lst (owns.map oD)),some (nD h),some (nD (c%(m+1)))]) (a:=nD (c%(m+1))) (b:=nD m) rfl rfl (j5 (c%(m+1)) m));have t2:=dk (bM (f:=gv 5) (f':=gv 3) (r:=[some (nD (c/(m+1))),some (nD n),some (nD m),some (.lst (owns.map oD)),some (nD h),some (nD (c%(m+1)))]) (a:=nD (c%(m+1))) (b:=.lst (owns.map oD)) rfl rfl (HA owns (c%(m+1))));have pre:∀s2:FS,seqF (aV gA 5 (f2 (gv 0) (f2 (gv 2) (ci 1) addA) cP)) (seqF (aV gA 0 (f2 (gv 0) (f2 (gv 2) (ci 1) addA) iV)) s2) [some (nD c),some (nD n),some (nD m),some (.lst (owns.map oD)),some (nD h),y]=s2 [some (nD (c/(m+1))),some (nD n),some (nD m),some (.lst (owns.map oD)),some (nD h),some (nD (c%(m+1)))]:=by intro s2;refine(aZ (c8 (d:=nD (c%(m+1))) (bM (a:=nD c) (b:=nD (m+1)) rfl (bM (a:=nD m) (b:=nD 1) rfl rfl (lU m 1)) (lY (by omega))))).trans ?_;exact aZ (c8 (d:=nD (c/(m+1))) (bM (a:=nD c) (b:=nD (m+1)) rfl (bM (a:=nD m) (b:=nD 1) rfl rfl (lU m 1)) (sD (by omega) (by omega))))
   have hlo:(owns.map oD).length<=1000:=by rw[p_];omega
   by_cases q:c%(m+1)=m\/some (c%(m+1))∈owns
   .refine⟨none,w.app_none,(pre _).trans ((aZ ((dI ?_).trans (aZ (kQ (d:=.lst (owns.map oD)) (ds:=[.non]) rfl rfl (aR (d:=.non) rfl aX) (mZ hlo))))).trans ?_)⟩
    .by_cases z:c%(m+1)=m
     .rw[decide_eq_true z]at t1;exact iI t1
     .rw[decide_eq_false z]at t1;rw[decide_eq_true (q.resolve_left z)]at t2;exact(fK t1).trans t2
    .show Out.nx [_,_,_,some (D.lst (owns.map oD++[.non])),_,_]=_;rw[Q0];rfl
   .have z1:¬ c%(m+1)=m:=fun z=>q (.inl z);have z2:some (c%(m+1))∉owns:=fun z=>q (.inr z);rw[decide_eq_false z1]at t1;rw[decide_eq_false z2]at t2;refine⟨some (c%(m+1)),w.app_some (by omega) z2,(pre _).trans ((aZ ((db ((fK t1).trans t2)).trans (aZ (kQ (d:=.lst (owns.map oD)) (ds:=[nD (c%(m+1))]) rfl rfl (aR (d:=nD (c%(m+1))) rfl aX) (mZ hlo))))).trans ?_)⟩;show Out.nx [_,_,_,some (D.lst (owns.map oD++[nD (c%(m+1))])),_,_]=_;rw[Q0];rfl
  obtain⟨o,w',hs⟩:=step;obtain⟨c',owns',x',y',h1,h2,h3⟩:=DR n m hm l (c/(m+1)) (owns++[o]) (some (nD h)) (some (nD (c%(m+1)))) w' (by simp at hl ⊢;omega);refine⟨c',owns',x',y',h1,by rw[h2];simp;omega,?_⟩;rw[<-h3];exact jt (r1:=[some (nD c),some (nD n),some (nD m),some (.lst (owns.map oD)),some (nD h),y]) rfl hs
theorem MI(c n m:Nat)(hn:n<=60)(hm:m<=60):∃owns:List (Option Nat),Own owns m/\owns.length=n/\uB [nD c,nD n,nD m]=.ok (OD owns):=by obtain⟨c',owns',x',y',h1,h2,h3⟩:=DR n m hm (C_ n) c [] none none ⟨fun x hx=>(nomatch hx),fun h k x e=>by unfold own at e;simp at e⟩ (by simp;omega);refine⟨owns',h1,by rw[h2];simp,dJ (B:=Ai) (n:=6) ?_⟩;unfold Ai;refine(aZ (c8 (d:=.lst []) (gj aX (by simp)))).trans ?_;refine(aZ ((iC (ds:=(C_ n).map nD) (oy (aR (d:=nD n) rfl aX) (pV (by omega)))).trans h3)).trans ?_;exact cQ (dc (dW (aR (d:=.lst (owns'.map oD)) rfl aX) rfl))
end Law
namespace Law
open PySem PyProof.Rows L2 DL
theorem Hs(a b:Nat):fZ (nD a) (nD b)=decide (a=b):=by show(((a:Nat):Int)==(b:Int))=_;rw[P_,beq_iff_eq,decide_eq_true_iff];exact T8
theorem Dv(k:Nat):∀l:List Nat,k∈l->j7 (nD k) (l.map nD)=some (l.idxOf k)
|[],h=>by cases h
|a::l,h=>by
  show(if fZ (nD a) (nD k)=true then some 0 else(j7 (nD k) (l.map nD)).map (· + 1))=_;rw[Hs];by_cases e:a=k
  .rw[if_pos (by simpa using e)];subst e;simp
  .rw[if_neg (by simpa using e),Dv k l ((w_.mp h).resolve_left fun z=>e z.symm)];have hf:(a==k)=false:=by simpa using e
   rw[List.idxOf_cons,hf];rfl
theorem BV{T:String}{fo:FE}{fl:aS->Res (List D)}{k:D->List D->Option D}{r:aS}{d d':D}{ds:List D}(h1:fo r=.ok d)(ht:vK T d=true)(h2:fl r=.ok ds)(h3:k d ds=some d'):fM T fo fl k r=.ok d':=by unfold fM;rw[h1,bind_ok,if_pos ht,h2,bind_ok,h3];rfl
section
variable{rz:List (List Nat)}{owns:List (Option Nat)}{o:Option (List Nat)}{n m:Nat}
theorem Scene.ne(S:Scene rz owns o n m):rz≠[]:=by
 rintro rfl
 have:=S.rl;have:=S.n1;simp at *;omega
theorem Scene.row(S:Scene rz owns o n m){h:Nat}(hh:h<n):(Wr rz h).Perm (C_ m):=by unfold Wr;rw[g_ (by rw[S.rl];exact hh)];exact S.rp _ (Wy _)
theorem Scene.row0(S:Scene rz owns o n m):(rz.headD []).length=m:=by cases rz with
|nil=>exact absurd rfl S.ne
|cons r t=>rw[List.headD_cons,(S.rp r k_).length_eq];simp
theorem Scene.line_perm(S:Scene rz owns o n m):(s0 rz o).line.Perm (C_ n):=by unfold s0;cases o with
|none=>rw[S.rl];exact List.Perm.refl _
|some l=>exact S.op l rfl
theorem Scene.mem(S:Scene rz owns o n m){h:Nat}:h∈(s0 rz o).line↔h<n:=by rw[S.line_perm.mem_iff];exact List.mem_range
theorem Scene.things(S:Scene rz owns o n m):(s0 rz o).things=C_ m:=by unfold s0;rw[S.row0]
theorem Scene.ok(S:Scene rz owns o n m):Rg.Ok (Wr rz) (own owns) (s0 rz o) where
 nl:=S.line_perm.nodup_iff.mpr T4
 nt:=by rw[S.things];exact T4
 le:=by rw[S.things,S.line_perm.length_eq];simp;exact S.nm
 row:=fun h hh x hx=>by rw[S.things]at hx;exact(S.row (S.mem.mp hh)).mem_iff.mpr hx
 inj:=S.ow.inj
 own:=fun h hh x hx=>by rw[S.things];exact QJ.mpr (S.ow.lt x (xZ hx).1)
theorem Scene.snd(S:Scene rz owns o n m):Snd rz owns (s0 rz o) where
 ok:=S.ok
 inr:=fun h hh=>by rw[S.rl];exact S.mem.mp hh
 ino:=fun h hh=>by rw[S.ol];exact S.mem.mp hh
 wid:=fun h hh=>by have:=(S.row (S.mem.mp hh)).length_eq;have:=S.m8;simp at *;omega
 nl:=by have:=S.line_perm.length_eq;have:=S.n7;simp at *;omega
 nt:=by rw[S.things];have:=S.m8;simp;omega
theorem Scene.ord(S:Scene rz owns o n m):∀l,o=some l->l.Nodup/\(∀k∈l,k<rz.length)/\l.length=rz.length:=by
 intro l hl;have p:=S.op l hl;refine⟨p.nodup_iff.mpr T4,fun k hk=>?_,?_⟩
 .rw[S.rl];exact QJ.mp (p.mem_iff.mp hk)
 .rw[p.length_eq,S.rl];simp
end
theorem ET:∀l l':List Nat,RP (zc5 (l.map nD)) (zc5 (l'.map nD))=decide (l=l')
|[],[]=>by simp[zc5,RP]
|[],k::l=>by simp[zc5,RP]
|k::l,[]=>by simp[zc5,RP]
|k::l,k'::l'=>by have ih:=ET l l';simp only[QE,zc5,bV,RP,Rz,ih];rw[P_];simp;omega
theorem Hd{l:List Nat}{k:Nat}:∀d∈l.map nD,dD k d:=by intro d hd;obtain⟨x,_,rfl⟩:=B_.mp hd;cases k <;> trivial
theorem Ei{k:Nat}{l:List Nat}(h:k∈l):sE (LN l) [nD k]=some (nD (l.idxOf k)):=by show(if dX (nD k)=true/\(l.map nD).all dX=true then(j7 (nD k) (l.map nD)).map fun j=>D.int j else none)=_;rw[if_pos ⟨rfl,wE l⟩,Dv k l h];rfl
theorem xS{l:List Nat}{i:Nat}(h:i<=l.length):pC (LN l) (some (i:Int)) none=some (LN (l.drop i)):=by show some (D.lst (fN (l.map nD) (some (i:Int)) none))=_;unfold fN;rw[HT.gL,HT.fV,p_,W2 h];rw[Vg (by simp)];show some (D.lst _)=some (D.lst ((l.drop i).map nD));rw[X6]
theorem mX{f:FE}{r:aS}{i:Int}(h:f r=.ok (.int i)):j6 f r=.ok (some i):=by unfold j6;rw[h];rfl
theorem mJ{fa:FE}{fl fh:FP}{r:aS}{d d':D}{lo hi:Option Int}(h1:fa r=.ok d)(h2:fl r=.ok lo)(h3:fh r=.ok hi)(h4:pC d lo hi=some d'):jS fa fl fh r=.ok d':=by unfold jS;rw[h1,bind_ok,h2,bind_ok,h3,bind_ok,h4];rfl
theorem C8{ds:List D}{i:Nat}{v:D}(h:i<ds.length):gr (.lst ds) (nD i) v=some (.lst (ds.set i v)):=by show(iL ds.length (i:Int)).map _=_;unfold iL;rw[if_pos (Tv i),if_pos (by omega)];simp
end Law
namespace Law
open PySem L2 DL
theorem Cj(l:List Nat)(i:Nat):pC (LN l) none (some (i:Int))=some (LN (l.take i)):=by show some (D.lst (fN (l.map nD) none (some (i:Int))))=_;unfold fN;rw[HT.gL,HT.fV,p_,UI,Yk,<-X5];show some (D.lst _)=some (D.lst ((l.take i).map nD));rw[Vp.mpr (by omega:min (min i l.length) l.length=min i l.length)]
theorem Cw{a b:List Nat}(h:a.length+b.length<=1000):addE (LN a) (LN b)=some (LN (a++b)):=by show addA (LN a) (LN b)=_;show(if (a.map nD).length+(b.map nD).length<=sizeLine then some (D.lst (a.map nD++b.map nD))else none)=_;rw[if_pos (by rw[p_,p_,QK];omega),<-Q0]
abbrev lu(l:List Nat):List Nat:=l.drop 1++l.take 1
theorem Ox{l:List Nat}(h1:1<=l.length)(hl:l.length<=900):uG [LN l]=.ok (LN (lu l)):=by refine dJ (B:=AN) (n:=1) ?_;unfold AN;exact cQ (dc (bM (mJ (d:=LN l) rfl (mX (i:=((1:Nat):Int)) rfl) rfl (xS h1)) (mJ (d:=LN l) rfl rfl (mX (i:=((1:Nat):Int)) rfl) (Cj l 1)) (Cw (by simp;omega))))
theorem DZ:∀l:List Nat,kb (l.map nD)=some (l.map fun k:Nat=>(k:Int))
|[]=>rfl
|k::l=>by show(kb (l.map nD)).map _=_;rw[DZ l];rfl
theorem Ls{l:List Nat}(h:l≠[]):∃k∈l,(∀x∈l,k<=x)/\om [LN l]=some (nD k):=by cases l with
|nil=>exact absurd rfl h
|cons a l=>
  have e:om [LN (a::l)]=some (.int (ig ((a::l).map fun k:Nat=>(k:Int)))):=by show(kb ((a::l).map nD)).map _=_;rw[DZ];rfl
  have hm:=Nr (ks:=(a::l).map fun k:Nat=>(k:Int)) (by simp);obtain⟨k,k1,k2⟩:=B_.mp hm;refine⟨k,k1,fun x hx=>?_,by rw[e,<-k2]⟩;have:=KW (ks:=(a::l).map fun k:Nat=>(k:Int)) (B_.mpr ⟨x,hx,rfl⟩);rw[<-k2]at this;exact Int.ofNat_le.mp this
theorem yB{A:List Nat}{i j:Nat}(hi:i<=A.length)(hj:j<A.length):(A.drop i++A.take i)[j]? = A[(i+j)%A.length]?:=by
 by_cases h:j<A.length-i
 .rw[I_ (by rw[QY];exact h),Sb,U5 (by omega)]
 .rw[Q6 (by rw[QY];omega),QY,RM,if_pos (by omega)];congr 1;have:i+j=(i+j-A.length)+A.length:=by omega
  rw[this,Nat.add_mod_right,U5 (by omega)];omega
theorem LP{A:List Nat}{i:Nat}(hi:i<A.length){j h l:Nat}(hz:((A.drop i++A.take i).zip (lu (A.drop i++A.take i)))[j]? = some (h,l)):∃k,A[k]? = some h/\A[(k+1)%A.length]? = some l:=by
 have hl:(A.drop i++A.take i).length=A.length:=by rw[L_,QY,QM];omega
 have hj:j<A.length:=by have:=(c_.mp hz).1;rw[W3]at this;omega
 rw[List.getElem?_zip_eq_some]at hz;obtain⟨z1,z2⟩:=hz;rw[yB (by omega) hj]at z1;rw[yB (by omega) (by omega),hl,yB (by omega) (Td _ (by omega))]at z2;refine⟨(i+j)%A.length,z1,?_⟩;rw[Nat.add_mod_mod]at z2;rw[Nat.mod_add_mod,show i+j+1=i+(1+j)by omega];exact z2
theorem Eg:∀(l r:List Nat),Te (fun a b=>D.tup [a,b]) (l.map nD) (r.map nD)=(l.zip r).map fun p=>D.tup [nD p.1,nD p.2]
|[],_=>rfl
|_::_,[]=>rfl
|a::l,b::r=>by show D.tup [nD a,nD b]::Te _ (l.map nD) (r.map nD)=_;rw[Eg l r];rfl
theorem JW{fa fb:FE}{r:aS}{d e:D}{ds es:List D}(h1:fa r=.ok d)(h2:fb r=.ok e)(h3:dY d=some ds)(h4:dY e=some es):lD fa fb r=.ok (Te (fun a b=>D.tup [a,b]) ds es):=by unfold lD;rw[h1,bind_ok,h2,bind_ok,h3,opt_some,bind_ok,h4,opt_some,bind_ok]
theorem Pf{owns:List (Option Nat)}{A:List Nat}{t:Nat->Nat}(hA:A≠[])(hl:A.length<=60)(ho:∀h∈A,h<owns.length)(hn:∀i h l,A[i]? = some h->A[(i+1)%A.length]? = some l->own owns l=some (t h)):∃k,k∈A/\(∀x∈A,k<=x)/\uV [OD owns,LN A]=.ok (eu t (A.drop (A.idxOf k)++A.take (A.idxOf k))):=by
 obtain⟨k,k1,k2,k3⟩:=Ls hA;have hi:=R5 k1;refine⟨k,k1,k2,dJ (B:=AS) (n:=4) ?_⟩;generalize hi':A.idxOf k=i at hi;have hlen:(A.drop i++A.take i).length=A.length:=by rw[L_,QY,QM];omega
 have hpos:=Sq.mpr hA;unfold AS;refine(aZ (c8 (d:=nD i) (BV (d:=LN A) rfl rfl (aR (dW (aR (d:=LN A) rfl aX) k3) aX) (by rw[Ei k1,hi'])))).trans ?_;refine(aZ (c8 (bM (mJ (d:=LN A) rfl (mX (i:=(i:Int)) rfl) rfl (xS (by omega))) (mJ (d:=LN A) rfl rfl (mX (i:=(i:Int)) rfl) (Cj A i)) (Cw (by simp;omega))))).trans ?_;have hm:∀p∈(A.drop i++A.take i).zip (lu (A.drop i++A.take i)),p.2∈A/\own owns p.2=some (t p.1):=fun p hp=>by obtain⟨j,hj⟩:=Sh hp;obtain⟨q,q1,q2⟩:=LP hi (h:=p.1) (l:=p.2) hj;exact⟨Q1 q2,hn q p.1 p.2 q1 q2⟩
 refine cQ (dc (dW (aR (jw (l:=(A.drop i++A.take i).zip (lu (A.drop i++A.take i))) (fun p=>D.tup [nD p.1,nD p.2]) (fun _=>true) (fun p=>fT t p.1) ?_ ?_ fun p hp=>⟨[some (nD p.1),some (nD p.2),some (OD owns)],rfl,rfl,fun _=>?_⟩) aX) ?_))
 .rw[<-Eg];exact JW (d:=LN (A.drop i++A.take i)) rfl (cW (aR (d:=LN (A.drop i++A.take i)) rfl aX) (Ox (by omega) (by omega))) rfl rfl
 .rw[W3];omega
 .obtain⟨p1,p2⟩:=hm p hp;have:=CM (ho p.2 p1);rw[p2]at this;exact kP (aR (d:=nD p.1) rfl (aR (bM (a:=OD owns) (b:=nD p.2) rfl rfl (mC this)) aX)) (by simp)
 .rw[na,e_tupL];show some (D.tup _)=some (D.tup _);congr 2;rw[show(fun p:Nat×Nat=>fT t p.1)=fT t∘Prod.fst from rfl,<-QT];congr 1;rw[List.map_fst_zip];simp;omega
theorem Mm{A:List Nat}{z:Nat}(h:A[A.length-1]? = some z):dj (LN A) (.int (-1))=some (nD z):=by have hl:A.length-1<A.length:=(c_.mp h).1;show gJ (A.map nD) (-1)=some (nD z);unfold gJ iL;rw[if_neg (by omega),if_pos (by rw[p_];omega),p_];show(A.map nD)[(-1+(A.length:Int)).toNat]? = _;rw[show(-1+(A.length:Int)).toNat=A.length-1 by omega,F_,h];rfl
section
variable{rz:List (List Nat)}{owns:List (Option Nat)}{s:Rg.S}{A:List Nat}{z:Nat}
abbrev jq(owns:List (Option Nat))(s:Rg.S)(x:Nat):Option Nat:=s.line.find? fun h=>decide (own owns h=some x)
theorem yF(S:Snd rz owns s)(hz:A[A.length-1]? = some z)(hm:z∈s.line)(s2:FS):(seqF (aV eO 5 (f2 (gv 4) (f1 (ci 1) jP) dj)) (seqF (aV eO 6 (bX (aP (f2 (gv 0) (gv 5) dj) (aP (gv 3) aN)) [] me)) (seqF (aV eO 7 (bX (aP (gv 1) (aP (gv 2) (aP (gv 6) aN))) [] ng)) s2))) [some (WD rz),some (OD owns),some (LN s.line),some (LN s.things),some (LN A),none,none,none]
  = s2 [some (WD rz),some (OD owns),some (LN s.line),some (LN s.things),some (LN A),some (nD z),some (nD (tS rz s z)),some (oD (jq owns s (tS rz s z)))]:=by refine(aZ (c8 (d:=nD z) (bM (a:=LN A) (b:=.int (-1)) rfl rfl (Mm hz)))).trans ?_;refine(aZ (c8 (cW (aR (bM (a:=WD rz) (b:=nD z) rfl rfl (mC (C3 (S.inr z hm)))) (aR (d:=LN s.things) rfl aX)) (S.tg hm)))).trans ?_;exact aZ (c8 (cW (aR (d:=OD owns) rfl (aR (d:=LN s.line) rfl (aR (d:=nD (tS rz s z)) rfl aX))) (E6 S.ino)))
abbrev vN(rz:List (List Nat))(owns:List (Option Nat))(s:Rg.S)(A:List Nat)(z:Nat):aS:=[some (WD rz),some (OD owns),some (LN s.line),some (LN s.things),some (LN A),some (nD z),some (nD (tS rz s z)),some (oD (jq owns s (tS rz s z)))]
theorem Co(S:Snd rz owns s):(bW (f2 (gv 7) (fun _=>Res.ok D.non) jR)) (vN rz owns s A z)=.ok (decide (jq owns s (tS rz s z)=none)):=dk (bM rfl rfl (BJ _))
theorem Cp(S:Snd rz owns s):(bW (f2 (gv 7) (gv 5) eqD)) (vN rz owns s A z)=.ok (decide (jq owns s (tS rz s z)=some z)):=dk (bM rfl (b:=nD z) rfl (BR _ _))
theorem Gj(S:Snd rz owns s)(hz:A[A.length-1]? = some z)(hm:z∈s.line)(h:jq owns s (tS rz s z)=none\/jq owns s (tS rz s z)=some z):kn [WD rz,OD owns,LN s.line,LN s.things,LN A]=.ok (.tup [.str "takes",nD z,nD (tS rz s z)]):=by
 refine dJ (B:=nq) (n:=8) ?_;unfold nq;refine(yF S hz hm _).trans ?_;have t1:=Co (A:=A) (z:=z) S;have t2:=Cp (A:=A) (z:=z) S;refine cQ ((dI ?_).trans (cQ (dc (kP (aR (d:=.str "takes") rfl (aR (d:=nD z) rfl (aR (d:=nD (tS rz s z)) rfl aX))) (by simp)))));rcases h with h|h
 .rw[decide_eq_true h]at t1;exact iI t1
 .rw[decide_eq_false (by rw[h];simp)]at t1;rw[decide_eq_true h]at t2;exact(fK t1).trans t2
theorem ES(S:Snd rz owns s){l:Nat}(h:jq owns s (tS rz s z)=some l)(hl:l≠z)(s2:FS):(seqF (d8 eO (iQ (bW (f2 (gv 7) (fun _=>Res.ok D.non) jR)) (bW (f2 (gv 7) (gv 5) eqD))) (seqF (retF eO (iq (aP (fun _=>Res.ok (D.str "takes")) (aP (gv 5) (aP (gv 6) aN))))) bN) bN) s2) (vN rz owns s A z)=s2 (vN rz owns s A z):=by have t1:=Co (A:=A) (z:=z) S;have t2:=Cp (A:=A) (z:=z) S;rw[decide_eq_false (by rw[h];simp)]at t1;rw[decide_eq_false (by rw[h];simpa using hl)]at t2;exact aZ ((db ((fK t1).trans t2)).trans (e_skip _))
theorem P4(S:Snd rz owns s)(hz:A[A.length-1]? = some z)(hm:z∈s.line){l:Nat}(h:jq owns s (tS rz s z)=some l)(hl:l≠z)(hn:l∉A):kn [WD rz,OD owns,LN s.line,LN s.things,LN A]=.ok (.tup [.str "ahead",nD l,nD (tS rz s z)]):=by refine dJ (B:=nq) (n:=8) ?_;unfold nq;refine(yF S hz hm _).trans ((ES S h hl _).trans ?_);show seqF _ _ [some (WD rz),some (OD owns),some (LN s.line),some (LN s.things),some (LN A),some (nD z),some (nD (tS rz s z)),some (oD (jq owns s (tS rz s z)))]=_;rw[h];have t3:=dk (bM (f:=gv 7) (f':=gv 4) (r:=[some (WD rz),some (OD owns),some (LN s.line),some (LN s.things),some (LN A),some (nD z),some (nD (tS rz s z)),some (nD l)]) (a:=nD l) (b:=LN A) rfl rfl (wY A l));rw[decide_eq_false hn]at t3;exact cQ ((dI t3).trans (cQ (dc (kP (aR (d:=.str "ahead") rfl (aR (d:=nD l) rfl (aR (d:=nD (tS rz s z)) rfl aX))) (by simp)))))
theorem OS(S:Snd rz owns s)(c:Rg.Chain (Wr rz) (own owns) s A)(hz:A[A.length-1]? = some z){i l:Nat}(hi:A[i]? = some l)(hO:own owns l=some (tS rz s z)):∀j h k,(A.drop i)[j]? = some h->(A.drop i)[(j+1)%(A.drop i).length]? = some k->own owns k=some (tS rz s h):=by
 intro j h k e1 e2;have hil:i<A.length:=(c_.mp hi).1;have hj:=(c_.mp e1).1;rw[QY]at hj e2;rw[Sb]at e1;by_cases q:j+1<A.length-i
 .rw[U5 q,Sb]at e2;exact c.nx (i+j) h k e1 (by rw[show i+j+1=i+(j+1)by omega];exact e2)
 .have:j+1=A.length-i:=by omega
  rw[this,Nat.mod_self,Sb,Yi,hi]at e2;cases e2;have:i+j=A.length-1:=by omega
  rw[this,hz]at e1;cases e1;exact hO
theorem Pw(S:Snd rz owns s)(c:Rg.Chain (Wr rz) (own owns) s A)(hz:A[A.length-1]? = some z){i l:Nat}(h:jq owns s (tS rz s z)=some l)(hl:l≠z)(hi:A.idxOf l=i)(hm:l∈A)(h60:A.length<=60):∃k,k∈A.drop i/\kn [WD rz,OD owns,LN s.line,LN s.things,LN A]=.ok (.tup [.str "ring",eu (tS rz s) ((A.drop i).drop ((A.drop i).idxOf k)++(A.drop i).take ((A.drop i).idxOf k))]):=by
 have hil:i<A.length:=by rw[<-hi];exact R5 hm
 have hil':A[i]? = some l:=by rw[g_ hil];congr 1;have:=V5 (R5 hm);subst hi;exact this
 have hO:own owns l=some (tS rz s z):=by have:=SR h;simpa using this
 obtain⟨k,k1,_,k2⟩:=Pf (owns:=owns) (A:=A.drop i) (t:=tS rz s) (List.ne_nil_of_length_pos (by rw[QY];omega)) (by rw[QY];omega) (fun h hh=>S.ino h (c.sub h (Uc hh))) (OS S c hz hil' hO);refine⟨k,k1,dJ (B:=nq) (n:=8) ?_⟩;unfold nq;refine(yF S hz (c.sub z (c.at hz)) _).trans ((ES S h hl _).trans ?_);show seqF _ _ [some (WD rz),some (OD owns),some (LN s.line),some (LN s.things),some (LN A),some (nD z),some (nD (tS rz s z)),some (oD (jq owns s (tS rz s z)))]=_;rw[h];have t3:=dk (bM (f:=gv 7) (f':=gv 4) (r:=[some (WD rz),some (OD owns),some (LN s.line),some (LN s.things),some (LN A),some (nD z),some (nD (tS rz s z)),some (nD l)]) (a:=nD l) (b:=LN A) rfl rfl (wY A l));rw[decide_eq_true hm]at t3;refine(aZ ((db t3).trans (e_skip _))).trans ?_;refine cQ (dc (kP (aR (d:=.str "ring") rfl (aR (cW (aR (d:=OD owns) rfl (aR (d:=LN (A.drop i)) (mJ (d:=LN A) rfl (mX (i:=(i:Int)) (BV (d:=LN A) rfl rfl (aR (d:=nD l) rfl aX) (by rw[Ei hm,hi]))) rfl (xS (by omega))) aX)) k2) aX)) (by simp)))
inductive Dd where
 |tk (h:Nat)|ah (h x:Nat)|rg (r:List Nat)
def Dd.hands:Dd->List Nat
|.tk h=>[h]
|.ah _ _=>[]
|.rg r=>r
def eL(a:Nat->Nat):Dd->D
|.tk h=>.tup [.str "takes",nD h,nD (a h)]
|.ah h x=>.tup [.str "ahead",nD h,nD x]
|.rg r=>.tup [.str "ring",eu a r]
theorem E7(a:Nat->Nat)(d:Dd):kY [eL a d]=.ok (eu a d.hands):=by refine dJ (B:=Ab) (n:=1) ?_;unfold Ab;cases d with
|tk h=>refine(aZ ((db (dk (bM (a:=.str "takes") (b:=.str "ahead") (bM (a:=eL a (.tk h)) (b:=.int 0) rfl rfl (ixA_T0 _ _)) rfl (d:=.bl false) (by unfold eqD;rw[eqB_str];rfl)))).trans (e_skip _))).trans ?_;refine cQ (dc ((vT (dk (bM (a:=.str "takes") (b:=.str "ring") (bM (a:=eL a (.tk h)) (b:=.int 0) rfl rfl (ixA_T0 _ _)) rfl (d:=.bl false) (by unfold eqD;rw[eqB_str];rfl)))).trans ?_));exact kP (aR (mJ (d:=eL a (.tk h)) (d':=.tup [nD h,nD (a h)]) rfl (mX (i:=1) rfl) rfl rfl) aX) (by simp[Dd.hands])
|ah h x=>exact cQ ((dI (dk (bM (a:=.str "ahead") (b:=.str "ahead") (bM (a:=eL a (.ah h x)) (b:=.int 0) rfl rfl (ixA_T0 _ _)) rfl (d:=.bl true) (by unfold eqD;rw[eqB_str];rfl)))).trans (cQ (dc (kP aX (by simp[Dd.hands])))))
|rg r=>refine(aZ ((db (dk (bM (a:=.str "ring") (b:=.str "ahead") (bM (a:=eL a (.rg r)) (b:=.int 0) rfl rfl (ixA_T0 _ _)) rfl (d:=.bl false) (by unfold eqD;rw[eqB_str];rfl)))).trans (e_skip _))).trans ?_;refine cQ (dc ((vU (dk (bM (a:=.str "ring") (b:=.str "ring") (bM (a:=eL a (.rg r)) (b:=.int 0) rfl rfl (ixA_T0 _ _)) rfl (d:=.bl true) (by unfold eqD;rw[eqB_str];rfl)))).trans ?_));exact bM (a:=eL a (.rg r)) (b:=nD 1) rfl rfl (mC rfl)
theorem FU{A:List Nat}(h:A.Nodup)(i:Nat){C:List Nat}(hC:∀x,x∈C↔x∈A.drop i):(A.filter fun x=>decide (x∉C))=A.take i:=by
 have h':(A.take i++A.drop i).Nodup:=by rw[S1];exact h
 conv=>lhs;rw[<-S1 i A]
 rw[List.filter_append];have e1:((A.take i).filter fun x=>decide (x∉C))=A.take i:=VN.mpr fun x hx=>by simp only[decide_eq_true_eq];rw[hC];exact fun z=>(RU.mp h').2.2 x hx x z rfl
 have e2:((A.drop i).filter fun x=>decide (x∉C))=[]:=List.filter_eq_nil_iff.mpr fun x hx=>by simp only[decide_eq_true_eq,Classical.not_not];exact(hC x).mpr hx
 rw[e1,e2,QX]
theorem E1{W:Nat->List Nat}{C E:List Nat}(h:∀x,x∈C↔x∈E):Rg.minus W s C=Rg.minus W s E:=by
 unfold Rg.minus;congr 1
 .exact Rg.ki fun x _=>by rw[P_];simp[h x]
 .refine Rg.ki fun x _=>?_;rw[P_];simp only[decide_eq_true_eq];have:x∈C.map (Rg.dF W s)↔x∈E.map (Rg.dF W s):=by simp only[B_,h]
  rw[this]
end
theorem FB:∀{l m:List Nat},l.Nodup->m.Nodup->(∀x,x∈l↔x∈m)->l.Perm m
|[],m,_,_,h=>by cases m with
 |nil=>exact .nil
 |cons a m=>exact absurd ((h a).mpr k_) (fun z=>nomatch z)
|a::l,m,hl,hm,h=>by
  have ha:a∈m:=(h a).mp k_;have hl':=RX.mp hl;refine(List.Perm.cons a (FB hl'.2 (hm.erase a) fun x=>?_)).trans (List.perm_cons_erase ha).symm;constructor
  .intro hx;have hne:x≠a:=by rintro rfl;exact hl'.1 hx
   exact(VB hne).mpr ((h x).mp (m_ _ hx))
  .intro hx;obtain⟨h1,h2⟩:=(List.Nodup.mem_erase_iff hm).mp hx;exact(w_.mp ((h x).mpr h2)).resolve_left h1
theorem FF{l C:List Nat}(hl:l.Nodup)(hC:C.Nodup)(hs:∀x∈C,x∈l):(C++l.filter fun x=>decide (x∉C)).Perm l:=by
 refine FB (RU.mpr ⟨hC,Rg.pd hl,fun a ha b hb=>?_⟩) hl fun x=>?_
 .rintro rfl
  have:=(t_.mp hb).2;simp only[decide_eq_true_eq]at this;exact this ha
 .rw[QW,t_];simp only[decide_eq_true_eq];constructor
  .rintro(h|h)
   .exact hs x h
   .exact h.1
  .intro h;by_cases c:x∈C
   .exact .inl c
   .exact .inr ⟨h,c⟩
section
variable{rz:List (List Nat)}{owns:List (Option Nat)}{s:Rg.S}{A A1 A2:List Nat}{a:Nat->Nat}
def nU(dd:Dd)(A:List Nat):List Nat:=match dd with
|.ah h _=>A++[h]
|_=>A
abbrev mA:List Md:=fG
theorem JI(S:Snd rz owns s)(od:D){told:List D}{x7 x8 x9:Option D}{dd:Dd}(hne:s.line≠[])(hA1:A1=if A=[]then[s.line.headD 0]else A)(h60:A1.length<=60)(ht:told.length<=900)(hd:kn [WD rz,OD owns,LN s.line,LN s.things,LN A1]=.ok (eL a dd))(hs:∀h∈dd.hands,h∈s.line) :
  ∃y8 y9,yS [some (WD rz),some (OD owns),some od,some (LN s.line),some (LN s.things),some (LN A),some (.lst told),x7,x8,x9]
   = .nx [some (WD rz),some (OD owns),some od,some (LN (s.line.filter fun h=>decide (h∉dd.hands))),some (LN (s.things.filter fun x=>decide (x∉dd.hands.map a))),some (LN ((nU dd A1).filter fun h=>decide (h∉dd.hands))),some (.lst (told++[eL a dd])),some (eL a dd),y8,y9]:=by
 obtain⟨kvs,g,hg⟩:=sJ (t:=a) (line:=s.line) (rs:=[dd.hands]) S.nl (by simpa using hs);rw[show[dd.hands].flatten=dd.hands by simp]at g;refine⟨some (KD kvs),some (LN (kvs.map (·.2))),?_⟩;refine(aZ (r':=[some (WD rz),some (OD owns),some od,some (LN s.line),some (LN s.things),some (LN A1),some (.lst told),x7,x8,x9]) ?_).trans ?_
 .cases hA:A with
 |nil=>rw[hA,if_pos rfl]at hA1;subst hA1;refine(dI (hU (b:=false) (gW (d:=LN []) rfl rfl))).trans ?_;refine(aZ (c8 (d:=LN [s.line.headD 0]) (gj (ds:=[nD (s.line.headD 0)]) (aR (bM (a:=LN s.line) (b:=.int 0) rfl rfl ?_) aX) (by simp)))).trans rfl;cases e:s.line with
  |nil=>exact absurd e hne
  |cons b t=>exact ixA_L0 _ _
 |cons b t=>rw[hA,if_neg (by simp)]at hA1;subst hA1;exact(db (hU (b:=true) (gW (d:=LN (b::t)) rfl rfl))).trans rfl
 refine(aZ (c8 (cW (aR (d:=WD rz) rfl (aR (d:=OD owns) rfl (aR (d:=LN s.line) rfl (aR (d:=LN s.things) rfl (aR (d:=LN A1) rfl aX))))) hd))).trans ?_;refine(aZ (kQ (d:=.lst told) (ds:=[eL a dd]) rfl rfl (aR (d:=eL a dd) rfl aX) (mZ (by omega)))).trans ?_;refine(aZ (r':=[some (WD rz),some (OD owns),some od,some (LN s.line),some (LN s.things),some (LN (nU dd A1)),some (.lst (told++[eL a dd])),some (eL a dd),x8,x9]) ?_).trans ?_
 .cases dd with
 |tk h=>exact(db (dk (bM (a:=.str "takes") (b:=.str "ahead") (bM (a:=eL a (.tk h)) (b:=.int 0) rfl rfl (ixA_T0 _ _)) rfl (d:=.bl false) (by unfold eqD;rw[eqB_str];rfl)))).trans rfl
 |rg r=>exact(db (dk (bM (a:=.str "ring") (b:=.str "ahead") (bM (a:=eL a (.rg r)) (b:=.int 0) rfl rfl (ixA_T0 _ _)) rfl (d:=.bl false) (by unfold eqD;rw[eqB_str];rfl)))).trans rfl
 |ah h x=>refine(dI (dk (bM (a:=.str "ahead") (b:=.str "ahead") (bM (a:=eL a (.ah h x)) (b:=.int 0) rfl rfl (ixA_T0 _ _)) rfl (d:=.bl true) (by unfold eqD;rw[eqB_str];rfl)))).trans ?_;refine(aZ (kQ (d:=LN A1) (ds:=[nD h]) rfl rfl (aR (bM (a:=eL a (.ah h x)) (b:=nD 1) rfl rfl (mC rfl)) aX) (mZ (by simp;omega)))).trans ?_;show Out.nx [_,_,_,_,_,some (D.lst (A1.map nD++[nD h])),_,_,_,_]=Out.nx [_,_,_,_,_,some (D.lst ((A1++[h]).map nD)),_,_,_,_];rw[Q0];rfl
 have h61:(nU dd A1).length<=61:=by cases dd <;> simp[nU] <;> omega
 refine(aZ (c8 (cW (aR (gj (aR (cW (aR (d:=eL a dd) rfl aX) (E7 a dd)) aX) (by simp)) aX) hg))).trans ?_;refine(aZ (c8 (d:=LN (kvs.map (·.2))) (rN (a:=KD kvs) rfl ?_))).trans ?_
 .rw[e_valsD,QT];show some (D.lst _)=some (D.lst ((kvs.map (·.2)).map nD));rw[QT];rfl
 refine(aZ (c8 (jw (l:=s.line) nD (fun h=>decide (h∉dd.hands)) nD rfl (by have:=S.nl;omega) fun h hh=>⟨[some (nD h),some (KD kvs)],rfl,dk (bM (a:=nD h) (b:=KD kvs) rfl rfl (wC g h)),fun _=>rfl⟩))).trans ?_;refine(aZ (c8 (jw (l:=nU dd A1) nD (fun h=>decide (h∉dd.hands)) nD rfl (by omega) fun h hh=>⟨[some (nD h),some (KD kvs)],rfl,dk (bM (a:=nD h) (b:=KD kvs) rfl rfl (wC g h)),fun _=>rfl⟩))).trans ?_;refine(aZ (c8 (jw (l:=s.things) nD (fun x=>decide (x∉dd.hands.map a)) nD rfl (by have:=S.nt;omega) fun h hh=>⟨[some (nD h),some (LN (kvs.map (·.2)))],rfl,dk (bM (a:=nD h) (b:=LN (kvs.map (·.2))) rfl rfl (Ce g h)),fun _=>rfl⟩))).trans ?_;rfl
theorem CQ{s':Rg.S}(S:Snd rz owns s)(k:Rg.Ok (Wr rz) (own owns) s')(hl:∀h∈s'.line,h∈s.line)(h1:s'.line.length<=s.line.length)(h2:s'.things.length<=s.things.length):Snd rz owns s':=⟨k,fun h hh=>S.inr h (hl h hh),fun h hh=>S.ino h (hl h hh),fun h hh=>S.wid h (hl h hh),QI h1 S.nl,QI h2 S.nt⟩
theorem Mo(S:Snd rz owns s)(t:Rg.TTC (Wr rz) (own owns) a s)(c:Rg.Chain (Wr rz) (own owns) s A1)(hA:A1≠[])(h60:A1.length<=60):∃(dd:Dd)(s':Rg.S)(A':List Nat),kn [WD rz,OD owns,LN s.line,LN s.things,LN A1]=.ok (eL a dd)/\(∀h∈dd.hands,h∈s.line)/\dd.hands.Nodup/\s'=⟨s.line.filter fun h=>decide (h∉dd.hands),s.things.filter fun x=>decide (x∉dd.hands.map a)⟩/\A'=(nU dd A1).filter (fun h=>decide (h∉dd.hands)) /\Snd rz owns s'/\Rg.TTC (Wr rz) (own owns) a s'/\Rg.Chain (Wr rz) (own owns) s' A'/\2*s'.line.length+A1.length+1<=2*s.line.length+A'.length:=by
 have hp:=Sq.mpr hA;have hz:A1[A1.length-1]? = some A1[A1.length-1]:=g_ (by omega);generalize A1[A1.length-1]=z at hz;have hzm:=c.sub z (c.at hz);have hAl:A1.length<=s.line.length:=Rg.kT c.nd c.sub;have len:∀{C:List Nat},C.Nodup->(∀h∈C,h∈s.line)->(s.line.filter fun h=>decide (h∉C)).length+C.length=s.line.length:=fun hC hs=>by have:=(FF S.ok.nl hC hs).length_eq;rw[L_]at this;omega
 have things:∀{C:List Nat},(∀h∈C,a h=tS rz s h)->C.map a=C.map (tS rz s):=fun h=>RD h;have tk:∀{s':Rg.S}{A':List Nat},s'=Rg.minus (Wr rz) s [z]->A'=A1.take (A1.length-1)->a z=tS rz s z->kn [WD rz,OD owns,LN s.line,LN s.things,LN A1]=.ok (.tup [.str "takes",nD z,nD (tS rz s z)])->Rg.Ok (Wr rz) (own owns) s'->Rg.TTC (Wr rz) (own owns) a s'->Rg.Chain (Wr rz) (own owns) s' A' ->∃(dd:Dd)(s':Rg.S)(A':List Nat),kn [WD rz,OD owns,LN s.line,LN s.things,LN A1]=.ok (eL a dd)/\(∀h∈dd.hands,h∈s.line)/\dd.hands.Nodup/\s'=⟨s.line.filter fun h=>decide (h∉dd.hands),s.things.filter fun x=>decide (x∉dd.hands.map a)⟩/\A'=(nU dd A1).filter (fun h=>decide (h∉dd.hands)) /\Snd rz owns s'/\Rg.TTC (Wr rz) (own owns) a s'/\Rg.Chain (Wr rz) (own owns) s' A'/\2*s'.line.length+A1.length+1<=2*s.line.length+A'.length:=by
  intro s' A' es eA ea hd k' t' c';have hz1:∀h∈[z],h∈s.line:=fun h hh=>by rw[u_.mp hh];exact hzm
  have l1:=len (C:=[z]) (by simp) hz1;have ll:s'.line.length+1=s.line.length:=by rw[es];exact l1
  refine⟨.tk z,s',A',by rw[hd];show _=Res.ok (D.tup [.str "takes",nD z,nD (a z)]);rw[ea],hz1,by simp[Dd.hands],?_,?_,CQ S k' (fun h hh=>by rw[es]at hh;exact(t_.mp hh).1) (by omega) (by rw[es];exact S0 _ _),t',c',?_⟩
  .rw[es];show(⟨_,s.things.filter fun x=>decide (x∉[z].map (tS rz s))⟩:Rg.S)=⟨_,s.things.filter fun x=>decide (x∉[z].map a)⟩
   rw[things (C:=[z]) fun h hh=>by rw[u_.mp hh];exact ea];rfl
  .rw[eA];refine(FU c.nd (A1.length-1) fun x=>?_).symm;constructor
   .intro hx;have:=u_.mp hx;subst this;exact Rg.sY (r_ _) hz
   .intro hx;obtain⟨j,h1,h2⟩:=Rg.qg hx;have hj:=(c_.mp h2).1;have:j=A1.length-1:=by omega
    subst this;rw[hz]at h2;cases h2;exact u_.mpr rfl
  .rw[eA,QM];omega
 cases hf:jq owns s (tS rz s z)with
|none=>
  obtain⟨k',t',c',ea⟩:=Rg.ID t S.ok c hz fun h hh=>by simpa using Q3.mp hf h hh
  exact tk rfl rfl ea (Gj S hz hzm (.inl hf)) k' t' c'
|some l=>
  have hO:own owns l=some (tS rz s z):=by simpa using SR hf
  have hll:=Sd hf;by_cases hlz:l=z
  .subst hlz;obtain⟨k',t',c',ea,cy⟩:=Rg.BY t S.ok c hz hz hO;have ed:∀x,x∈A1.drop (A1.length-1)↔x∈[l]:=fun x=>by
    constructor
    .intro hx;obtain⟨j,h1,h2⟩:=Rg.qg hx;have hj:=(c_.mp h2).1;have:j=A1.length-1:=by omega
     subst this;rw[hz]at h2;cases h2;exact u_.mpr rfl
    .intro hx;rw[u_.mp hx];exact Rg.sY (r_ _) hz
   exact tk (E1 ed) rfl (ea l ((ed l).mpr (u_.mpr rfl))) (Gj S hz hzm (.inr hf)) k' t' c'
  .by_cases hm:l∈A1
   .obtain⟨k,k1,hd⟩:=Pw S c hz hf hlz rfl hm h60;have hil:=R5 hm;have hi:A1[A1.idxOf l]? = some l:=by rw[g_ hil];congr 1;exact V5 hil
    obtain⟨k',t',c',ea,cy⟩:=Rg.BY t S.ok c hz hi hO;generalize A1.idxOf l=i at hd hil k' t' c' ea cy k1;generalize hr:(A1.drop i).drop ((A1.drop i).idxOf k)++(A1.drop i).take ((A1.drop i).idxOf k)=r at hd;have hperm:r.Perm (A1.drop i):=by rw[<-hr];exact List.perm_append_comm.trans (by rw[S1])
    have hrm:∀x,x∈r↔x∈A1.drop i:=fun x=>hperm.mem_iff;have er:eu (tS rz s) r=eu a r:=by show D.tup _=D.tup _;congr 1;refine RD fun x hx=>?_;show D.tup [nD x,nD _]=D.tup [nD x,nD _];rw[ea x ((hrm x).mp hx)]
    have hrs:∀h∈r,h∈s.line:=fun h hh=>c.sub h (Uc ((hrm h).mp hh));have hrn:r.Nodup:=hperm.nodup_iff.mpr (c.nd.sublist (List.drop_sublist _ _));have l1:=len hrn hrs;have l2:r.length=A1.length-i:=by rw[hperm.length_eq,QY]
    have e':Rg.minus (Wr rz) s (A1.drop i)=Rg.minus (Wr rz) s r:=E1 fun x=>(hrm x).symm;have ll:(Rg.minus (Wr rz) s (A1.drop i)).line.length+r.length=s.line.length:=by rw[e'];exact l1
    refine⟨.rg r,_,_,by rw[hd];show Res.ok (D.tup [.str "ring",eu (tS rz s) r])=Res.ok (D.tup [.str "ring",eu a r]);rw[er],hrs,hrn,?_,?_,CQ S k' (fun h hh=>(t_.mp hh).1) (by omega) (S0 _ _),t',c',?_⟩
    .rw[e'];show(⟨_,s.things.filter fun x=>decide (x∉r.map (tS rz s))⟩:Rg.S)=⟨_,s.things.filter fun x=>decide (x∉r.map a)⟩
     rw[things (C:=r) fun h hh=>ea h ((hrm h).mp hh)];rfl
    .exact(FU c.nd i hrm).symm
    .rw[QM];omega
   .have c':=Rg.Ic c hz hll hm hO;refine⟨.ah l (tS rz s z),s,A1++[l],P4 S hz hzm hf hlz hm,fun h hh=>(nomatch hh),Xo,?_,?_,S,t,c',by rw[L_,SY];omega⟩
    .show s=⟨s.line.filter fun h=>decide (h∉[]),s.things.filter fun x=>decide (x∉[])⟩
     simp[na]
    .show _=(A1++[l]).filter fun h=>decide (h∉[]);simp[na]
theorem JJ(od:D):∀(j:Nat)(s:Rg.S)(A:List Nat)(told:List D)(x7 x8 x9:Option D),Snd rz owns s->Rg.TTC (Wr rz) (own owns) a s->Rg.Chain (Wr rz) (own owns) s A->2*s.line.length<j+A.length->told.length+2*s.line.length<=300+A.length ->
  ∃(s':Rg.S)(A':List Nat)(l:List Dd)(x7' x8' x9':Option D),(l.flatMap Dd.hands).Perm s.line/\l.length+A.length<=2*s.line.length /\
   hV mA EK yS j [some (WD rz),some (OD owns),some od,some (LN s.line),some (LN s.things),some (LN A),some (.lst told),x7,x8,x9]
    = .nx [some (WD rz),some (OD owns),some od,some (LN s'.line),some (LN s'.things),some (LN A'),some (.lst (told++l.map (eL a))),x7',x8',x9']:=by
 intro j
 induction j with
|zero=>intro s A told x7 x8 x9 S t c h;have:=Rg.kT c.nd c.sub;omega
|succ j ih=>
  intro s A told x7 x8 x9 S t c hj ht;have hAl:A.length<=s.line.length:=Rg.kT c.nd c.sub;have hnl:=S.nl;by_cases hne:s.line=[]
  .refine⟨s,A,[],x7,x8,x9,by rw[hne];exact .nil,by simp;omega,?_⟩;rw[R3,QX];refine xU (gW (d:=LN s.line) rfl ?_);rw[hne];rfl
  .have hpos:=Sq.mpr hne;generalize hA1:(if A=[]then[s.line.headD 0]else A)=A1;have c1:Rg.Chain (Wr rz) (own owns) s A1:=by
    rw[<-hA1];split
    .exact Rg.Ik hne
    .exact c
   have hA1n:A1≠[]:=by
    rw[<-hA1];split
    .simp
    .assumption
   have hA1l:A.length<=A1.length:=by
    rw[<-hA1];split
    .rename_i e;rw[e];simp
    .exact r_ _
   have hA1s:A1.length<=s.line.length:=Rg.kT c1.nd c1.sub;obtain⟨dd,s1,A2,hd,hs,hn,es,eA,S',t',c',hm⟩:=Mo S t c1 hA1n (by omega);obtain⟨y8,y9,hb⟩:=JI (told:=told) (x7:=x7) (x8:=x8) (x9:=x9) S od hne hA1.symm (by omega) (by omega) hd hs;obtain⟨s',A',l,x7',x8',x9',h1,h2,h3⟩:=ih s1 A2 (told++[eL a dd]) (some (eL a dd)) y8 y9 S' t' c' (by omega) (by rw[L_];simp;omega);refine⟨s',A',dd::l,x7',x8',x9',?_,by simp;omega,?_⟩
   .rw[List.flatMap_cons];have e1:s1.line=s.line.filter fun h=>decide (h∉dd.hands):=by rw[es]
    rw[e1]at h1;exact(List.Perm.append_left _ h1).trans (FF S.ok.nl hn hs)
   .rw[Ry]at h3;rw[QE];refine Eq.trans (xV (gW (b:=true) (d:=LN s.line) rfl ?_) ?_) h3
    .cases q:s.line with
    |nil=>exact absurd q hne
    |cons b t=>rfl
    .rw[hb,es,eA]
theorem N7{o:Option (List Nat)}(ho:∀l,o=some l->l.Nodup/\(∀k∈l,k<rz.length)/\l.length=rz.length)(hr:rz≠[])(h8:rz.length<=30)(S:Snd rz owns (s0 rz o))(h30:(s0 rz o).line.length<=30)(t:Rg.TTC (Wr rz) (own owns) a (s0 rz o)):∃l:List Dd,(l.flatMap Dd.hands).Perm (s0 rz o).line/\l.length<=60/\pW [WD rz,OD owns,fg o]=.ok (.lst (l.map (eL a))):=by obtain⟨s',A',l,x7',x8',x9',h1,h2,h3⟩:=JJ (rz:=rz) (owns:=owns) (a:=a) (fg o) 64 (s0 rz o) [] [] none none none S t Rg.Ij (by simp;omega) (by simp;omega);refine⟨l,h1,by simp at h2;omega,dJ (B:=sL) (n:=10) ?_⟩;unfold sL;cases rz with
|nil=>exact absurd rfl hr
|cons row rest=>refine(aZ (c8 (cW (aR (d:=WD (row::rest)) rfl (aR (d:=fg o) rfl aX)) (FG ho (by omega))))).trans ?_;refine(aZ (c8 (d:=LN (s0 (row::rest) o).things) (dW (aR (cW (aR (d:=WD (row::rest)) rfl aX) zR) aX) (xY (by have:=S.nt;unfold s0 at this;simp at this;omega))))).trans ?_;refine(aZ (c8 (d:=.lst []) (gj aX (by simp)))).trans ?_;refine(aZ (c8 (d:=.lst []) (gj aX (by simp)))).trans ?_;refine(aZ h3).trans ?_;exact cQ (dc (d:=.lst (l.map (eL a))) rfl)
theorem Pv{o:Option (List Nat)}(ho:∀l,o=some l->l.Nodup/\(∀k∈l,k<rz.length)/\l.length=rz.length)(hr:rz≠[])(h8:rz.length<=30)(S:Snd rz owns (s0 rz o))(h30:(s0 rz o).line.length<=30)(hall:∀h,h∈(s0 rz o).line↔h<rz.length)(t:Rg.TTC (Wr rz) (own owns) a (s0 rz o)):nr [WD rz,OD owns,fg o]=.ok (TN ((C_ rz.length).map a)):=by
 obtain⟨l,h1,h2,h3⟩:=N7 ho hr h8 S h30 t;obtain⟨kvs,g,hg⟩:=sJ (t:=a) (line:=(s0 rz o).line) (rs:=l.map Dd.hands) S.nl (fun h hh=>h1.mem_iff.mp (by rw[WJ];exact hh));refine dJ (B:=qu) (n:=3) ?_;unfold qu;refine cQ (dc (cW (aR (cW (aR (jw (l:=l) (eL a) (fun _=>true) (fun d=>eu a d.hands) (C7 (cW (aR (d:=WD rz) rfl (aR (d:=OD owns) rfl (aR (d:=fg o) rfl aX))) h3) rfl) (by omega) fun d hd=>⟨[some (eL a d)],rfl,rfl,fun _=>cW (aR (d:=eL a d) rfl aX) (E7 a d)⟩) aX) ?_) aX) (Gi g (n:=rz.length) (fun x=>?_) (by omega))))
 .rw[na];show hW [.lst (l.map fun d=>eu a d.hands)]=_;rw[show(l.map fun d=>eu a d.hands)=(l.map Dd.hands).map (eu a)by rw[QT];rfl];exact hg
 .rw[<-hall x,<-h1.mem_iff,WJ]
end
end Law
namespace Law
open PySem PyProof.Rows L2 DL
theorem gH{s1 s2:FS}{r r':aS}{x:D}(h:s1 r=.exc x r'):seqF s1 s2 r=.exc x r':=by unfold seqF;rw[h]
theorem mY{B:FS}{n:Nat}{ds:List D}{x:D}{r':aS}(h:B (cO n ds)=.exc x r'):bP false (B (cO n ds))=.exc x:=by rw[h];rfl
theorem IU{m:List Md}{nm f:Str}{fl:aS->Res (List D)}{r:aS}{i:Int}(h:fl r=.ok [.int i])(hi:i.natAbs.log2<64):rZ m nm f fl r=.exc (xD nm [(f,.int i)]) (forget m r):=by unfold rZ;rw[h,onE_ok];show(if i.natAbs.log2<64 then _ else _)=_;rw[if_pos hi]
theorem Oo{k:Nat}(h:k<=60):((k:Nat):Int).natAbs.log2<64:=by rw[Int.natAbs_natCast];have:=Nat.log2_le_self k;omega
theorem km{fl:aS->Res (List D)}{zs:List D}{F:List D->Res D}{r:aS}{x:Res D}(h1:fl r=.ok zs)(h2:F zs=x):gZ fl [] F r=x:=by unfold gZ;rw[h1,bind_ok,QX,h2]
theorem DG{m:List Md}{i:Nat}{f:FE}{r:aS}{d:D}(h:f r=.exc d):aV m i f r=.exc d (forget m r):=by unfold aV;rw[h];rfl
inductive Fl:D->Prop where
 |non:Fl .non
 |int (i:Int):Fl (.int i)
 |bl (b:Bool):Fl (.bl b)
 |str:Fl (.str "0")
theorem Fl.shp{d:D}(h:Fl d)(k:Nat):dD k d:=by cases h with
|non=>cases k <;> trivial
|int i=>cases k <;> trivial
|bl b=>cases k <;> trivial
|str=>cases k <;> exact(show Ye "0" = true by kernel_rfl)
theorem wV:∀{l:List D},(∀d∈l,Fl d)->RP (zc5 l) (zc5 l)=true
|[],_=>by simp[zc5,RP]
|d::l,h=>by have ih:=wV (l:=l) fun x hx=>h x (m_ _ hx);have hd:=h d k_;simp only[zc5,RP,ih];cases hd with
 |non=>simp[bV,Rz]
 |int i=>simp[bV,Rz]
 |bl b=>simp[bV,Rz]
 |str=>simp[bV,Rz]
theorem CH{l:List D}(h:∀d∈l,Fl d):neD (.lst l) (.lst l)=some (.bl false):=by unfold neD;rw[yH rfl (oO.mpr fun d hd=>(h d hd).shp _) (oO.mpr fun d hd=>(h d hd).shp _)];unfold mv;simp only[bV,Rz,wV h];rfl
theorem nO(zs:List D):lenD [.lst zs]=some (nD zs.length):=rfl
def jA(m:Nat)(pre:List Nat):D->Option (List Nat)
|.int i=>if 0<=i/\i<(m:Int)/\i.toNat∉pre then some (pre++[i.toNat])else none
|_=>none
def ob(m:Nat):List Nat->Nat->List D->Option Nat
|_,_,[]=>none
|pre,k,d::ds=>match jA m pre d with
 |none=>some k
 |some pre'=>ob m pre' (k+1) ds
theorem wD{m:Nat}:∀{ds:List D}{pre:List Nat}{k j:Nat},ob m pre k ds=some j->j<k+ds.length
|[],_,_,_,h=>by simp[ob]at h
|d::ds,pre,k,j,h=>by
  unfold ob at h;split at h
  .cases h;simp
  .have:=wD h;simp;omega
theorem DN{m:Nat}{pre pre':List Nat}{d:D}(h:jA m pre d=some pre'):pre'.length=pre.length+1:=by
 unfold jA at h;split at h
 .split at h
  .cases h;simp
  .cases h
 .cases h
def fA(m:Nat)(row:List D):Bool:=decide (row.length=m/\ob m [] 0 row=none)
theorem LO(i:Int):qi [.int i]=.ok (.bl true):=rfl
theorem xL(i:Int)(m:Nat):kW [.int i,nD m]=.ok (.bl (decide (0<=i/\i<(m:Int)))):=by
 refine dJ (B:=ni) (n:=2) ?_;unfold ni;refine cQ (dc ?_);rw[su (cW (aR (d:=.int i) rfl aX) (LO i))];unfold kd;show(if decide ((0:Int)<=i)=true then Res.ok (D.bl (decide (i<(m:Int))))else Res.ok (D.bl false))=_;by_cases c:(0:Int)<=i
 .rw[decide_eq_true c,if_pos rfl];congr 2;rw[decide_eq_decide];exact⟨fun z=>⟨c,z⟩,fun z=>z.2⟩
 .rw[decide_eq_false c,if_neg i_,decide_eq_false (fun z=>c z.1)]
theorem yC{d:D}(m:Nat)(h:d=.non\/d=.str "0"\/∃b,d=.bl b):kW [d,nD m]=.ok (.bl false):=by refine dJ (B:=ni) (n:=2) ?_;unfold ni;refine cQ (dc ?_);refine CV (cW (aR (d:=d) rfl aX) ?_);rcases h with rfl|rfl|⟨b,rfl⟩ <;> rfl
theorem m4{i:Int}(h:0<=i):D.int i=nD i.toNat:=by show D.int i=D.int (i.toNat:Int);rw[VO h]
theorem Df(pre:List Nat)(k:Nat):iN (nD k) (eI pre)=some (.bl (decide (k∈pre))):=by
 show(some (fu _ (kI k))).map D.bl=_;rw[wP,QT];have:decide (k∈pre.map ((fun p:Nat×D=>p.1)∘fun k=>(k,D.bl true)))=decide (k∈pre):=by rw[decide_eq_decide];simp[S_]
 rw[this];rfl
theorem MP{pre:List Nat}{k:Nat}(hk:k∉pre)(hl:pre.length<=60):gr (eI pre) (nD k) (.bl true)=some (eI (pre++[k])):=by show(if _ then some (D.dic (eQ _ (kI k) (.bl true)))else none)=_;rw[if_pos (by rw[p_,p_,QK];omega),Ex _ _ _ (by rw[QT];simpa[S_]using hk)];simp
section
variable{T:D}{m:Nat}
theorem Iu{pre:List Nat}{d:D}(hf:Fl d)(h:jA m pre d=none){k:Nat}:k6 [some T,some (nD m),some (eI pre),some (nD k),some d]=.rt (nD k):=by refine cQ ((dI ?_).trans (cQ (dc rfl)));have bad:kW [d,nD m]=.ok (.bl false)->(iQ (fB (eU (bX (aP (gv 4) (aP (gv 1) aN)) [] kW))) (bW (f2 (gv 4) (gv 2) iN))) [some T,some (nD m),some (eI pre),some (nD k),some d]=.ok true:=fun hb=>iI (hU (b:=false) (gW (d:=.bl false) (cW (aR (d:=d) rfl (aR (d:=nD m) rfl aX)) hb) rfl));cases hf with
|non=>exact bad (yC m (.inl rfl))
|str=>exact bad (yC m (.inr (.inl rfl)))
|bl b=>exact bad (yC m (.inr (.inr ⟨b,rfl⟩)))
|int i=>
  by_cases c:0<=i/\i<(m:Int)
  .have hp:i.toNat∈pre:=by
    by_cases z:i.toNat∈pre
    .exact z
    .have h:(if 0<=i/\i<(m:Int)/\i.toNat∉pre then some (pre++[i.toNat])else none)=none:=h;rw[if_pos ⟨c.1,c.2,z⟩]at h;cases h
   have hb:=xL i m;rw[decide_eq_true c]at hb;refine(fK (hU (b:=true) (gW (d:=.bl true) (cW (aR (d:=.int i) rfl (aR (d:=nD m) rfl aX)) hb) rfl))).trans ?_;refine dk (bM (a:=.int i) (b:=eI pre) rfl rfl ?_);rw[m4 c.1,Df,decide_eq_true hp]
  .have hb:=xL i m;rw[decide_eq_false c]at hb;exact bad hb
theorem Lc{pre pre':List Nat}{d:D}(h:jA m pre d=some pre')(hl:pre.length<=60){k:Nat}:k6 [some T,some (nD m),some (eI pre),some (nD k),some d]=.nx [some T,some (nD m),some (eI pre'),some (nD k),some d]:=by
 unfold jA at h;split at h
 .rename_i i;split at h
  .rename_i c;cases h;have hb:=xL i m;rw[decide_eq_true ⟨c.1,c.2.1⟩]at hb;refine(aZ ((db ?_).trans (e_skip _))).trans (aZ ?_)
   .refine(fK (hU (b:=true) (gW (d:=.bl true) (cW (aR (d:=.int i) rfl (aR (d:=nD m) rfl aX)) hb) rfl))).trans ?_;refine dk (bM (a:=.int i) (b:=eI pre) rfl rfl ?_);rw[m4 c.1,Df,decide_eq_false c.2.2]
   .refine mT (d:=eI pre) (k:=.int i) (v:=.bl true) (d':=eI (pre++[i.toNat])) rfl rfl rfl ?_;rw[m4 c.1];exact MP c.2.2 hl
  .cases h
 .cases h
theorem EH:∀(zs:List D)(pre:List Nat)(k:Nat)(x y:Option D),(∀d∈zs,Fl d)->pre.length+zs.length<=60 ->(∀j,ob m pre k zs=some j->bT (ir (eJ (cU 3) (eJ (cU 4) il))) k6 (dq k zs) [some T,some (nD m),some (eI pre),x,y]=.rt (nD j)) /\(ob m pre k zs=none->∃pre' x' y',bT (ir (eJ (cU 3) (eJ (cU 4) il))) k6 (dq k zs) [some T,some (nD m),some (eI pre),x,y]=.nx [some T,some (nD m),some (eI pre'),x',y'])
|[],pre,k,x,y,_,_=>⟨fun j h=>(nomatch h),fun _=>⟨pre,x,y,jx⟩⟩
|d::zs,pre,k,x,y,hf,hl=>by simp only[Q8]at hl;have hd:=hf d k_;cases e:jA m pre d with
 |none=>
   have h:=Iu (T:=T) hd e (k:=k);have ho:ob m pre k (d::zs)=some k:=by unfold ob;rw[e]
   rw[ho];refine⟨fun j z=>?_,fun z=>(nomatch z)⟩;cases z;exact wO (r1:=[some T,some (nD m),some (eI pre),some (nD k),some d]) rfl h
 |some pre'=>
   have h:=Lc (T:=T) e (by omega) (k:=k);have ho:ob m pre k (d::zs)=ob m pre' (k+1) zs:=by conv=>lhs;unfold ob;rw[e]
   have hp:=DN e;obtain⟨i1,i2⟩:=EH zs pre' (k+1) (some (nD k)) (some d) (fun z hz=>hf z (m_ _ hz)) (by omega);have st:bT (ir (eJ (cU 3) (eJ (cU 4) il))) k6 (dq k (d::zs)) [some T,some (nD m),some (eI pre),x,y]=bT (ir (eJ (cU 3) (eJ (cU 4) il))) k6 (dq (k+1) zs) [some T,some (nD m),some (eI pre'),some (nD k),some d]:=jt (r1:=[some T,some (nD m),some (eI pre),some (nD k),some d]) rfl h;rw[ho,st];exact⟨i1,i2⟩
theorem C4{row:List D}(ha:dY T=some row)(ht:lenD [T]=some (nD row.length))(hf:∀d∈row,Fl d)(hl:row.length<=60):ny [T,nD m]=.ok (nD ((ob m [] 0 row).getD row.length)):=by
 obtain⟨i1,i2⟩:=EH (T:=T) (m:=m) row [] 0 none none hf (by simpa using hl);refine dJ (B:=qM) (n:=5) ?_;unfold qM;refine(aZ (r':=[some T,some (nD m),some (eI []),none,none]) rfl).trans ?_;have hi:jT (gv 0) [some T,some (nD m),some (eI []),none,none]=.ok (dq 0 row):=by unfold jT;show(Res.ok T).bind _=_;rw[bind_ok,ha];rfl
 cases e:ob m [] 0 row with
|none=>obtain⟨pre',x',y',h⟩:=i2 e;refine(aZ ((iC hi).trans h)).trans ?_;exact cQ (dc (dW (aR (d:=T) rfl aX) ht))
|some j=>exact cQ ((iC hi).trans (i1 j e))
theorem MH{row:List D}(ha:dY T=some row)(ht:lenD [T]=some (nD row.length))(hf:∀d∈row,Fl d)(hl:row.length<=60):nu [T,nD m]=.ok (.bl (fA m row)):=by
 have fw:=C4 (T:=T) (m:=m) ha ht hf hl;have un:qq [T,nD m]=.ok (.bl (decide (ob m [] 0 row=none))):=by refine dJ (B:=qp) (n:=2) ?_;unfold qp;refine cQ (dc (bM (a:=nD ((ob m [] 0 row).getD row.length)) (b:=nD row.length) (cW (aR (d:=T) rfl (aR (d:=nD m) rfl aX)) fw) (dW (aR (d:=T) rfl aX) ht) ?_));rw[j5];congr 2;rw[decide_eq_decide];cases e:ob m [] 0 row with
 |none=>simp
 |some j=>have:=wD e;simp;omega
 refine dJ (B:=qz) (n:=2) ?_;unfold qz;refine cQ (dc ?_);have t:f2 (fC (aP (gv 0) aN) lenD) (gv 1) eqD (cO 2 [T,nD m])=.ok (.bl (decide (row.length=m))):=bM (a:=nD row.length) (b:=nD m) (dW (aR (d:=T) rfl aX) ht) rfl (j5 _ _);unfold fA;by_cases c:row.length=m
 .rw[decide_eq_true c]at t;refine(su t).trans (cW (aR (d:=T) rfl (aR (d:=nD m) rfl aX)) ?_);rw[QX,un];congr 2;rw[decide_eq_decide];exact⟨fun z=>⟨c,z⟩,fun z=>z.2⟩
 .rw[decide_eq_false c]at t;rw[decide_eq_false (fun z=>c z.1)];exact CV t
end
def fwN(n:Nat)(zs:List D):Nat:=(ob n [] 0 zs).getD zs.length
abbrev iz(n:Nat)(zs:List D):D:=xD "NoOrder" [("at",nD (fwN n zs))]
theorem Hv{n:Nat}{zs:List D}:fwN n zs<=zs.length:=by unfold fwN;cases e:ob n [] 0 zs with
|none=>simp
|some j=>have:=wD e;simp;omega
section
variable{rz:List (List Nat)}{n:Nat}{zs:List D}{O:D}
theorem MU(hr:rz.length=n)(hf:∀d∈zs,Fl d)(hl:zs.length<=60)(h:fA n zs=false):jz [WD rz,.lst zs]=.exc (iz n zs):=by have hg:=MH (T:=.lst zs) (m:=n) rfl (nO zs) hf hl;have hw:=C4 (T:=.lst zs) (m:=n) rfl (nO zs) hf hl;rw[h]at hg;have ln:fC (aP (gv 0) aN) lenD (cO 2 [WD rz,.lst zs])=.ok (nD n):=dW (aR (d:=WD rz) rfl aX) (by rw[qb,hr]);have:=Hv (n:=n) (zs:=zs);refine mY (B:=uL) (n:=2) (r':=forget dU (cO 2 [WD rz,.lst zs])) ?_;unfold uL;refine(aZ ((db (dk (bM (a:=.lst zs) (b:=.non) (d:=.bl false) rfl rfl rfl))).trans (e_skip _))).trans ?_;exact gH ((dI (hU (b:=false) (gW (d:=.bl false) (cW (aR (d:=.lst zs) rfl (aR ln aX)) hg) rfl))).trans (gH (IU (i:=(fwN n zs:Int)) (aR (d:=nD (fwN n zs)) (cW (aR (d:=.lst zs) rfl (aR ln aX)) hw) aX) (Oo (by omega)))))
theorem Fe(h:jz [WD rz,.lst zs]=.exc (iz n zs)):o8 [WD rz,O,.lst zs]=.exc (iz n zs):=mY (B:=Ac) (n:=9) (gH (DG (km (aR (d:=WD rz) rfl (aR (d:=.lst zs) rfl aX)) h)))
theorem Er(h:jz [WD rz,.lst zs]=.exc (iz n zs)):oX [WD rz,O,.lst zs]=.exc (iz n zs):=mY (B:=yQ) (n:=10) (gH (DG (km (aR (d:=WD rz) rfl (aR (d:=.lst zs) rfl aX)) h)))
theorem Eb{f:FE}{r:aS}{x:D}(h:f r=.exc x):df dY f r=.exc x:=by unfold df;rw[h];rfl
theorem Op{m:List Md}{fi:FI}{ft:FT}{b:FS}{r:aS}{x:D}(h:fi r=.exc x):sv m fi ft b r=.exc x (forget m r):=by unfold sv;rw[h];rfl
theorem Pp(h:jz [WD rz,.lst zs]=.exc (iz n zs)):uM [WD rz,O,.lst zs]=.exc (iz n zs):=by refine mY (B:=uK) (n:=5) (r':=forget gN [some (WD rz),some O,some (.lst zs),some (.dic []),none]) ?_;unfold uK;refine(aZ (r':=[some (WD rz),some O,some (.lst zs),some (.dic []),none]) rfl).trans ?_;exact gH (Op (Eb (km (aR (d:=WD rz) rfl (aR (d:=O) rfl (aR (d:=.lst zs) rfl aX))) (Fe h))))
theorem L6{nl:Nat}{cap:List Nat}{fi:FI}{ft:FT}{q:FQ}{fe:FE}{r:aS}{x:D}(h:fi r=.exc x):gb nl cap fi ft q fe r=.exc x:=by unfold gb;rw[h];rfl
theorem CG{f:FE}{fl:aS->Res (List D)}{r:aS}{x:D}(h:f r=.exc x):aP f fl r=.exc x:=by unfold aP;rw[h];rfl
theorem D5{fl:aS->Res (List D)}{dds:List D}{F:List D->Res D}{r:aS}{x:D}(h:fl r=.exc x):bX fl dds F r=.exc x:=by unfold bX;rw[h];rfl
theorem LR{m:List Md}{f:FE}{r:aS}{x:D}(h:f r=.exc x):retF m f r=.exc x (forget m r):=by unfold retF;rw[h];rfl
theorem PL(h:jz [WD rz,.lst zs]=.exc (iz n zs)):uF [WD rz,O,.lst zs]=.exc (iz n zs):=mY (B:=AM) (n:=3) (gH (LR (D5 (CG (D5 (CG (L6 (Eb (km (aR (d:=WD rz) rfl (aR (d:=O) rfl (aR (d:=.lst zs) rfl aX))) (Er h))))))))))
end
theorem l6{a b:List D}(h:a.length+b.length<=1000):addA (.lst a) (.lst b)=some (.lst (a++b)):=by show(if a.length+b.length<=sizeLine then _ else _)=_;rw[if_pos (by rw[QK];omega)]
abbrev BL(l:List Bool):D:=.lst (l.map .bl)
abbrev iW:List Bool:=[false,false,false,false,false,false,false,false,true,false,false,true,true]
abbrev iP:List Bool:=[false,true,false,false,false,false,false,false,false,false,false,true,true]
theorem EG{x:D}{b0 b1 b2 b3 b4 b5 b6 b7 b8 b9 b10 b11 b12:Bool}(h0:cS oW x=some (.bl b0))(h1:cS pc x=some (.bl b1))(h2:cS pv x=some (.bl b2))(h3:cS oZ x=some (.bl b3))(h4:cS o6 x=some (.bl b4))(h5:cS oS x=some (.bl b5))(h6:cS oR x=some (.bl b6))(h7:cS pe x=some (.bl b7))(h8:cS oU x=some (.bl b8))(h9:cS o7 x=some (.bl b9))(h10:cS oV x=some (.bl b10))(h11:cS pi x=some (.bl b11))(h12:cS pj x=some (.bl b12)):mn [x]=.ok (BL [b0,b1,b2,b3,b4,b5,b6,b7,b8,b9,b10,b11,b12]):=by have g:∀{y:Option D}{t:Str->Option Bool}{b:Bool},cS t x=some (.bl b)->f1 (gv 0) (cS t) [some x,y]=.ok (.bl b):=fun h=>rN (a:=x) rfl h;refine dJ (B:=vC) (n:=2) ?_;unfold vC;refine(aZ (r':=[some x,some (BL [b0,b1,b2,b3])]) (c8 (gj (aR (g h0) (aR (g h1) (aR (g h2) (aR (g h3) aX)))) (by simp)))).trans ?_;refine(aZ (r':=[some x,some (BL [b0,b1,b2,b3,b4,b5,b6,b7])]) (c8 (bM (a:=BL [b0,b1,b2,b3]) (b:=BL [b4,b5,b6,b7]) rfl (gj (aR (g h4) (aR (g h5) (aR (g h6) (aR (g h7) aX)))) (by simp)) (l6 (by simp))))).trans ?_;refine(aZ (r':=[some x,some (BL [b0,b1,b2,b3,b4,b5,b6,b7,b8,b9,b10])]) (c8 (bM (a:=BL [b0,b1,b2,b3,b4,b5,b6,b7]) (b:=BL [b8,b9,b10]) rfl (gj (aR (g h8) (aR (g h9) (aR (g h10) aX))) (by simp)) (l6 (by simp))))).trans ?_;exact cQ (dc (bM (a:=BL [b0,b1,b2,b3,b4,b5,b6,b7,b8,b9,b10]) (b:=BL [b11,b12]) rfl (gj (aR (g h11) (aR (g h12) aX)) (by simp)) (l6 (by simp))))
theorem Nx{ds:List (Str×D)}:mn [xD "NoOrder" ds]=.ok (BL iW):=EG rfl rfl rfl rfl rfl rfl rfl rfl rfl rfl rfl rfl rfl
theorem Mc{ds:List (Str×D)}:mn [xD "NotSquare" ds]=.ok (BL iP):=EG rfl rfl rfl rfl rfl rfl rfl rfl rfl rfl rfl rfl rfl
section
variable{rz:List (List Nat)}{n:Nat}{zs:List D}{O:D}
theorem D8{m1:List Md}{i:Nat}{h1:Str->Bool}{fb f1:FS}{r r' r2:aS}{nm:Str}{ds:List (Str×D)}(h:fb r=.exc (xD nm ds) r')(hh:h1 nm=true)(hs:f1 (r'.set i (some (xD nm ds)))=.nx r2):i5 m1 i h1 fb f1 r=.nx (r2.set i none):=by unfold i5;rw[h];show(if h1 nm=true then(match f1 (r'.set i (some (xD nm ds)))with|.nx r2=>Out.nx (r2.set i none)|_=>.stuck)else _)=_;rw[if_pos hh,hs]
theorem on{m:List Md}{f:FE}{r:aS}{d:D}(h:f r=.exc d):kM m f r=.exc d (forget m r):=by unfold kM;rw[h];rfl
theorem Pe{w:Nat}(hw:w<4)(h:jz [WD rz,.lst zs]=.exc (iz n zs)):vD [nD w,WD rz,O,.lst zs]=.ok (.lst [BL iW,nD (fwN n zs)]):=by
 refine dJ (B:=AX) (n:=6) ?_;unfold AX;refine(aZ (r':=[some (nD w),some (WD rz),some O,some (.lst zs),some .non,none]) rfl).trans ?_;have xa:lf pO "at" (iz n zs)=some (nD (fwN n zs)):=rfl;have args:aP (gv 1) (aP (gv 2) (aP (gv 3) aN)) [some (nD w),some (WD rz),some O,some (.lst zs),some .non,none]=.ok [WD rz,O,.lst zs]:=rfl;have t:∀k:Nat,bW (f2 (gv 0) (fun _=>Res.ok (D.int (k:Int))) eqD) [some (nD w),some (WD rz),some O,some (.lst zs),some .non,none]=.ok (decide (w=k)):=fun k=>dk (bM (a:=nD w) (b:=nD k) rfl rfl (j5 _ _));refine(aZ (r':=[none,none,none,some (.lst zs),some (.lst [BL iW,nD (fwN n zs)]),none]) ?_).trans (cQ (dc rfl));refine(D8 (nm := "NoOrder") (ds:=[("at",nD (fwN n zs))]) (r':=[none,none,none,some (.lst zs),some .non,none]) (r2:=[none,none,none,some (.lst zs),some (.lst [BL iW,nD (fwN n zs)]),some (iz n zs)]) ?_ (by decide+kernel) ?_).trans rfl
 .refine gH ?_;have t0:=t 0;have t1:=t 1;have t2:=t 2
  match w,hw with
 |0,_=>exact(dI t0).trans (gH (on (km args (Fe h))))
 |1,_=>exact(db t0).trans (gH ((dI t1).trans (gH (on (km args (Pp h))))))
 |2,_=>exact(db t0).trans (gH ((db t1).trans (gH ((dI t2).trans (gH (on (km args (Er h))))))))
 |3,_=>exact(db t0).trans (gH ((db t1).trans (gH ((db t2).trans (gH (on (km args (PL h))))))))
 .exact aZ (c8 (gj (aR (d:=BL iW) (cW (aR (d:=iz n zs) rfl aX) Nx) (aR (d:=nD (fwN n zs)) (rN (a:=iz n zs) rfl xa) aX)) (by simp)))
end
theorem CK{m:Nat}:∀{ds:List D}{pre:List Nat}{k:Nat},ob m pre k ds=none->pre.Nodup->∃l:List Nat,ds=l.map nD/\(pre++l).Nodup/\∀x∈l,x<m
|[],pre,_,_,hn=>⟨[],rfl,by simpa using hn,fun _ h=>nomatch h⟩
|d::ds,pre,k,h,hn=>by
  unfold ob at h;split at h
  .cases h
  .rename_i pre' e;unfold jA at e;split at e
   .rename_i i;split at e
    .rename_i c;cases e;obtain⟨l,e1,e2,e3⟩:=CK h (RU.mpr ⟨hn,by simp,fun a ha b hb'=>by rw[u_.mp hb'];rintro rfl;exact c.2.2 ha⟩);refine⟨i.toNat::l,?_,by simpa using e2,fun x hx=>?_⟩
     .rw[QE,<-e1,m4 c.1]
     .rcases w_.mp hx with z|z
      .rw[z];omega
      .exact e3 x z
    .cases e
   .cases e
theorem EJ{n:Nat}{zs:List D}(h:fA n zs=true):zs.length=n/\∃l:List Nat,zs=l.map nD/\l.Nodup/\∀x∈l,x<n:=by unfold fA at h;obtain⟨h1,h2⟩:=of_decide_eq_true h;obtain⟨l,a,b,c⟩:=CK h2 (by simp);exact⟨h1,l,a,by simpa using b,c⟩
theorem xK{n:Nat}{zs:List D}(h:zs.length≠n):fA n zs=false:=by unfold fA;rw[decide_eq_false (fun z=>h z.1)]
theorem JN{n i j:Nat}{zs:List D}{v:D}(hij:i≠j)(h1:zs[i]? = some v)(h2:zs[j]? = some v):fA n zs=false:=by cases e:fA n zs with
|false=>rfl
|true=>obtain⟨_,l,rfl,hn,_⟩:=EJ e;rw[F_]at h1 h2;cases a:l[i]? with
 |none=>rw[a]at h1;cases h1
 |some x=>cases b:l[j]? with
  |none=>rw[b]at h2;cases h2
  |some y=>
    rw[a]at h1;rw[b]at h2;have h1:nD x=v:=z_ h1;have h2:nD y=v:=z_ h2;have:x=y:=by have z:nD x=nD y:=h1.trans h2.symm;have z:((x:Nat):Int)=((y:Nat):Int):=D.int.inj z;omega
    subst this;obtain⟨p1,q1⟩:=c_.mp a;obtain⟨p2,q2⟩:=c_.mp b;exact absurd ((Wn hn).mp (q1.trans q2.symm)) hij
theorem Ig{n i:Nat}{zs:List D}{v:D}(h1:zs[i]? = some v)(hv:∀x:Nat,x<n->v≠nD x):fA n zs=false:=by cases e:fA n zs with
|false=>rfl
|true=>obtain⟨_,l,rfl,_,hb⟩:=EJ e;rw[F_]at h1;cases a:l[i]? with
 |none=>rw[a]at h1;cases h1
 |some x=>rw[a]at h1;exact absurd (z_ h1).symm (hv x (hb x (Q1 a)))
section
variable{T:D}{m:Nat}
theorem Ie{pre:List Nat}{d:D}(hf:Fl d)(h:jA m pre d=none){k:Nat}:nc [some T,some (nD m),some (LN pre),some (nD k),some d]=.rt (nD k):=by refine cQ ((dI ?_).trans (cQ (dc rfl)));cases hf with
|non=>exact iI (hU (b:=false) (gW (d:=.bl false) (cW (aR (d:=.non) rfl aX) rfl) rfl))
|str=>exact iI (hU (b:=false) (gW (d:=.bl false) (cW (aR (d:=.str "0") rfl aX) rfl) rfl))
|bl b=>exact iI (hU (b:=false) (gW (d:=.bl false) (cW (aR (d:=.bl b) rfl aX) rfl) rfl))
|int i=>
  refine(fK (hU (b:=true) (gW (d:=.bl true) (cW (aR (d:=.int i) rfl aX) rfl) rfl))).trans ?_;have ch:kd (ci 0) (gv 4) (gv 1) rA ku [some T,some (nD m),some (LN pre),some (nD k),some (.int i)]=.ok (.bl (decide (0<=i/\i<(m:Int)))):=by
   unfold kd;show(if decide ((0:Int)<=i)=true then Res.ok (D.bl (decide (i<(m:Int))))else Res.ok (D.bl false))=_;by_cases c:(0:Int)<=i
   .rw[decide_eq_true c,if_pos rfl];congr 2;rw[decide_eq_decide];exact⟨fun z=>⟨c,z⟩,fun z=>z.2⟩
   .rw[decide_eq_false c,if_neg i_,decide_eq_false (fun z=>c z.1)]
  by_cases c:0<=i/\i<(m:Int)
  .have hp:i.toNat∈pre:=by
    by_cases z:i.toNat∈pre
    .exact z
    .have h:(if 0<=i/\i<(m:Int)/\i.toNat∉pre then some (pre++[i.toNat])else none)=none:=h;rw[if_pos ⟨c.1,c.2,z⟩]at h;cases h
   rw[decide_eq_true c]at ch;refine(fK (hU (b:=true) (dk ch))).trans ?_;refine dk (bM (a:=.int i) (b:=LN pre) rfl rfl ?_);rw[m4 c.1,wG,decide_eq_true hp]
  .rw[decide_eq_false c]at ch;exact iI (hU (b:=false) (dk ch))
theorem JL{pre pre':List Nat}{d:D}(h:jA m pre d=some pre')(hl:pre.length<=60){k:Nat}:nc [some T,some (nD m),some (LN pre),some (nD k),some d]=.nx [some T,some (nD m),some (LN pre'),some (nD k),some d]:=by
 unfold jA at h;split at h
 .rename_i i;split at h
  .rename_i c;cases h;refine(aZ ((db ?_).trans (e_skip _))).trans (aZ ?_)
   .refine(fK (hU (b:=true) (gW (d:=.bl true) (cW (aR (d:=.int i) rfl aX) rfl) rfl))).trans ?_;refine(fK (hU (b:=true) (dk (Dp (x:=.int 0) (y:=.int i) (w:=nD m) (d:=.bl true) rfl rfl ?_ rfl ?_)))).trans ?_
    .show some (D.bl (decide ((0:Int)<=i)))=_;rw[decide_eq_true c.1]
    .show some (D.bl (decide (i<(m:Int))))=_;rw[decide_eq_true c.2.1]
    .refine dk (bM (a:=.int i) (b:=LN pre) rfl rfl ?_);rw[m4 c.1,wG,decide_eq_false c.2.2]
   .refine kQ (d:=LN pre) (ds:=[.int i]) (d':=LN (pre++[i.toNat])) rfl rfl (aR (d:=.int i) rfl aX) ?_;rw[m4 c.1,mZ (by simp;omega)];simp
  .cases h
 .cases h
theorem Dl:∀(zs:List D)(pre:List Nat)(k:Nat)(x y:Option D),(∀d∈zs,Fl d)->pre.length+zs.length<=60 ->(∀j,ob m pre k zs=some j->bT (ir (eJ (cU 3) (eJ (cU 4) il))) nc (dq k zs) [some T,some (nD m),some (LN pre),x,y]=.rt (nD j)) /\(ob m pre k zs=none->∃pre' x' y',pre'.length=pre.length+zs.length/\bT (ir (eJ (cU 3) (eJ (cU 4) il))) nc (dq k zs) [some T,some (nD m),some (LN pre),x,y]=.nx [some T,some (nD m),some (LN pre'),x',y'])
|[],pre,k,x,y,_,_=>⟨fun j h=>(nomatch h),fun _=>⟨pre,x,y,rfl,jx⟩⟩
|d::zs,pre,k,x,y,hf,hl=>by simp only[Q8]at hl;have hd:=hf d k_;cases e:jA m pre d with
 |none=>
   have h:=Ie (T:=T) hd e (k:=k);have ho:ob m pre k (d::zs)=some k:=by unfold ob;rw[e]
   rw[ho];refine⟨fun j z=>?_,fun z=>(nomatch z)⟩;cases z;exact wO (r1:=[some T,some (nD m),some (LN pre),some (nD k),some d]) rfl h
 |some pre'=>
   have h:=JL (T:=T) e (by omega) (k:=k);have ho:ob m pre k (d::zs)=ob m pre' (k+1) zs:=by conv=>lhs;unfold ob;rw[e]
   have hp:=DN e;obtain⟨i1,i2⟩:=Dl zs pre' (k+1) (some (nD k)) (some d) (fun z hz=>hf z (m_ _ hz)) (by omega);have st:bT (ir (eJ (cU 3) (eJ (cU 4) il))) nc (dq k (d::zs)) [some T,some (nD m),some (LN pre),x,y]=bT (ir (eJ (cU 3) (eJ (cU 4) il))) nc (dq (k+1) zs) [some T,some (nD m),some (LN pre'),some (nD k),some d]:=jt (r1:=[some T,some (nD m),some (LN pre),some (nD k),some d]) rfl h;rw[ho,st];refine⟨i1,fun z=>?_⟩;obtain⟨p2,x',y',l2,e2⟩:=i2 z;exact⟨p2,x',y',by rw[l2,hp,Q8];omega,e2⟩
end
theorem IX{zs:List D}{n:Nat}(hf:∀d∈zs,Fl d)(hl:zs.length<=60):tj [.lst zs,nD n]=.ok (nD (fwN n zs)):=by obtain⟨i1,i2⟩:=Dl (T:=.lst zs) (m:=n) zs [] 0 none none hf (by simpa using hl);refine dJ (B:=yP) (n:=5) ?_;unfold yP;refine(aZ (r':=[some (.lst zs),some (nD n),some (LN []),none,none]) rfl).trans ?_;unfold fwN;cases e:ob n [] 0 zs with
|some j=>exact cQ ((iC (ds:=dq 0 zs) rfl).trans (i1 j e))
|none=>obtain⟨pre',x',y',_,h⟩:=i2 e;exact(aZ ((iC (ds:=dq 0 zs) rfl).trans h)).trans (cQ (dc (dW (aR (d:=.lst zs) rfl aX) (nO zs))))
theorem Du{a b:Nat}(h:0<b)(h2:b<100000):iV (nD a) (nD b)=some (nD (a/b)):=by rw[EE (by first|exact⟨by omega,by omega⟩|(unfold iT;omega)|exact .inl ⟨by omega,by omega⟩)];show some (D.int _)=some (D.int _);rw[WI]
theorem JZ(l:List D)(i:Nat):pC (.lst l) none (some (i:Int))=some (.lst (l.take i)):=by show some (D.lst (fN l none (some (i:Int))))=_;unfold fN;rw[HT.gL,HT.fV,UI,Yk];rw[Vp.mpr (by omega:min (min i l.length) l.length=min i l.length)]
theorem ND{A:List D}{z:D}(h:A[A.length-1]? = some z):dj (.lst A) (.int (-1))=some z:=by have hl:A.length-1<A.length:=(c_.mp h).1;show gJ A (-1)=some z;unfold gJ iL;rw[if_neg (by omega),if_pos (by omega)];show A[(-1+(A.length:Int)).toNat]? = _;rw[show(-1+(A.length:Int)).toNat=A.length-1 by omega,h]
theorem Lh{l:List D}{i n:Nat}(hl:l.length=n)(h1:1<n)(hi:i<n):∃(v:D)(j:Nat),j≠i/\l[j]? = some v/\dj (.lst l) (.int ((i:Int)-1))=some v:=by
 by_cases c:i=0
 .subst c;obtain⟨v,hv⟩:∃v,l[n-1]? = some v:=⟨_,g_ (by omega)⟩
  refine⟨v,n-1,by omega,hv,?_⟩;have e:((0:Nat):Int)-1 = -1:=by omega
  rw[e];exact ND (by rw[hl];exact hv)
 .obtain⟨v,hv⟩:∃v,l[i-1]? = some v:=⟨_,g_ (by omega)⟩
  refine⟨v,i-1,by omega,hv,?_⟩;rw[show((i:Nat):Int)-1=((i-1:Nat):Int)by omega];exact pI hv
theorem LX{c n:Nat}(h1:1<=n)(hn:n<=7):∃zs:List D,(∀d∈zs,Fl d)/\zs.length<=8/\fA n zs=false/\tD [nD c,nD n]=.ok (.lst zs):=by
 obtain⟨row,p1,p2⟩:=DF (c/7) n (by omega);have pl:row.length=n:=by rw[p1.length_eq];simp
 have hat:c/5040%n<n:=Td _ (by omega);have hw:c%7<7:=Td _ (by decide);have hk:c/40320%7<7:=Td _ (by decide);have hf:∀d∈row.map nD,Fl d:=fun d hd=>by obtain⟨j,_,rfl⟩:=B_.mp hd;exact .int _
 have hl:(row.map nD).length=n:=by rw[p_,pl]
 obtain⟨v,hv,hfv,hbv⟩:∃v:D,([.int (-1),nD n,.bl true,.str "0",.non,.int (10^30),.bl false]:List D)[c/40320%7]? = some v/\Fl v/\∀x:Nat,x<n->v≠nD x:=by
  have big:(10^30:Int)>1000:=by decide
  generalize c/40320%7=j at hk
  match j,hk with
 |0,_=>exact⟨_,rfl,.int _,fun x hx z=>by have:=D.int.inj z;omega⟩
 |1,_=>exact⟨_,rfl,.int _,fun x hx z=>by have:=D.int.inj z;omega⟩
 |2,_=>exact⟨_,rfl,.bl _,fun x hx z=>nomatch z⟩
 |3,_=>exact⟨_,rfl,.str,fun x hx z=>nomatch z⟩
 |4,_=>exact⟨_,rfl,.non,fun x hx z=>nomatch z⟩
 |5,_=>exact⟨_,rfl,.int _,fun x hx z=>by have:=D.int.inj z;omega⟩
 |6,_=>exact⟨_,rfl,.bl _,fun x hx z=>nomatch z⟩
 suffices h:∃zs:List D,(∀d∈zs,Fl d)/\zs.length<=8/\fA n zs=false/\zZ (cO 5 [nD c,nD n])=.rt (.lst zs)by obtain⟨zs,a,b,e,f⟩:=h;exact⟨zs,a,b,e,dJ f⟩
 unfold zZ;rw[aZ (r':=[some (nD c),some (nD n),some (.lst (row.map nD)),none,none]) (c8 (dW (aR (d:=TN row) (cW (aR (d:=nD (c/7)) (bM (a:=nD c) (b:=nD 7) rfl rfl (sD (by decide) (by decide))) (aR (d:=nD n) rfl aX)) p2) aX) rfl))];clear p2 p1 pl;generalize row.map nD=z0 at hf hl;rw[aZ (r':=[some (nD c),some (nD n),some (.lst z0),some (nD (c/5040%n)),none]) (c8 (bM (a:=nD (c/5040)) (b:=nD n) (bM (a:=nD c) (b:=nD 5040) rfl rfl (Du (by decide) (by decide))) rfl (lY (by omega))))];generalize c/5040%n=at' at hat;rw[aZ (r':=[some (nD c),some (nD n),some (.lst z0),some (nD at'),some (.lst [.int (-1),nD n,.bl true,.str "0",.non,.int (10^30),.bl false])]) (c8 (gj (aR (d:=.int (-1)) rfl (aR (d:=nD n) rfl (aR (d:=.bl true) rfl (aR (d:=.str "0") rfl (aR (d:=.non) rfl (aR (d:=.int (10^30)) rfl (aR (d:=.bl false) rfl aX))))))) (by simp)))];have t:∀k:Nat,bW (f2 (f2 (gv 0) (ci 7) cP) (fun _=>Res.ok (D.int (k:Int))) eqD) [some (nD c),some (nD n),some (.lst z0),some (nD at'),some (.lst [.int (-1),nD n,.bl true,.str "0",.non,.int (10^30),.bl false])]=.ok (decide (c%7=k)):=fun k=>dk (bM (a:=nD (c%7)) (b:=nD k) (bM (a:=nD c) (b:=nD 7) rfl rfl (lY (by decide))) rfl (j5 _ _));have pick:f2 (gv 4) (f2 (f2 (gv 0) (ci 40320) iV) (ci 7) cP) dj [some (nD c),some (nD n),some (.lst z0),some (nD at'),some (.lst [.int (-1),nD n,.bl true,.str "0",.non,.int (10^30),.bl false])]=.ok v:=bM (a:=.lst [.int (-1),nD n,.bl true,.str "0",.non,.int (10^30),.bl false]) (b:=nD (c/40320%7)) rfl (bM (a:=nD (c/40320)) (b:=nD 7) (bM (a:=nD c) (b:=nD 40320) rfl rfl (Du (by decide) (by decide))) rfl (lY (by decide))) (pI hv);have e0:bW (f2 (f2 (gv 0) (ci 7) cP) (ci 0) eqD) [some (nD c),some (nD n),some (.lst z0),some (nD at'),some (.lst [.int (-1),nD n,.bl true,.str "0",.non,.int (10^30),.bl false])]=.ok (decide (c%7=0)):=t 0;have e1:bW (f2 (f2 (gv 0) (ci 7) cP) (ci 1) eqD) [some (nD c),some (nD n),some (.lst z0),some (nD at'),some (.lst [.int (-1),nD n,.bl true,.str "0",.non,.int (10^30),.bl false])]=.ok (decide (c%7=1)):=t 1;have e2:bW (f2 (f2 (gv 0) (ci 7) cP) (ci 2) eqD) [some (nD c),some (nD n),some (.lst z0),some (nD at'),some (.lst [.int (-1),nD n,.bl true,.str "0",.non,.int (10^30),.bl false])]=.ok (decide (c%7=2)):=t 2;have e3:bW (f2 (f2 (gv 0) (ci 7) cP) (ci 3) eqD) [some (nD c),some (nD n),some (.lst z0),some (nD at'),some (.lst [.int (-1),nD n,.bl true,.str "0",.non,.int (10^30),.bl false])]=.ok (decide (c%7=3)):=t 3;by_cases c0:c%7=0
 .rw[decide_eq_true c0]at e0;exact⟨z0.take at',fun d hd=>hf d (VC hd),by simp;omega,xK (by simp;omega),cQ ((dI e0).trans (cQ (dc (mJ (d:=.lst z0) rfl rfl (mX (i:=((at':Nat):Int)) rfl) (JZ _ _)))))⟩
 .rw[decide_eq_false c0]at e0;rw[aZ ((db e0).trans (e_skip _))];by_cases c1:c%7=1
  .rw[decide_eq_true c1]at e1;obtain⟨u,hu⟩:∃u,z0[at']? = some u:=⟨_,g_ (by omega)⟩
   refine⟨z0++[u],fun d hd=>?_,by simp;omega,xK (by simp;omega),cQ ((dI e1).trans (cQ (dc (bM (a:=.lst z0) (b:=.lst [u]) rfl (gj (aR (d:=u) (bM (a:=.lst z0) (b:=nD at') rfl rfl (pI hu)) aX) (by simp)) (l6 (by simp;omega))))))⟩;rcases QW.mp hd with z|z
   .exact hf d z
   .rw[u_.mp z];exact hf u (Q1 hu)
  .rw[decide_eq_false c1]at e1;rw[aZ ((db e1).trans (e_skip _))];by_cases c2:c%7=2
   .rw[decide_eq_true c2]at e2;refine⟨z0++[v],fun d hd=>?_,by simp;omega,xK (by simp;omega),cQ ((dI e2).trans (cQ (dc (bM (a:=.lst z0) (b:=.lst [v]) rfl (gj (aR (d:=v) pick aX) (by simp)) (l6 (by simp;omega))))))⟩;rcases QW.mp hd with z|z
    .exact hf d z
    .rw[u_.mp z];exact hfv
   .rw[decide_eq_false c2]at e2;rw[aZ ((db e2).trans (e_skip _))];have g1:bW (f2 (gv 1) (ci 1) kx) [some (nD c),some (nD n),some (.lst z0),some (nD at'),some (.lst [.int (-1),nD n,.bl true,.str "0",.non,.int (10^30),.bl false])]=.ok (decide (1<n)):=dk (bM (a:=nD n) (b:=nD 1) rfl rfl (rR _ _));by_cases c3:c%7=3/\1<n
    .rw[decide_eq_true c3.1]at e3;rw[decide_eq_true c3.2]at g1;obtain⟨u,j,hj,hu,hx⟩:=Lh hl c3.2 hat;refine⟨z0.set at' u,fun d hd=>(UJ hd).elim (hf d) (fun e=>by rw[e];exact hf u (Q1 hu)),by simp;omega,JN hj (by rw[f_ (fun z=>hj z.symm)];exact hu) (by rw[n_ (by omega)]),?_⟩;refine cQ ((dI ((oa e3).trans g1)).trans ((aZ (r':=[some (nD c),some (nD n),some (.lst (z0.set at' u)),some (nD at'),some (.lst [.int (-1),nD n,.bl true,.str "0",.non,.int (10^30),.bl false])]) ?_).trans (cQ (dc rfl))));exact mT (d:=.lst z0) (k:=nD at') (v:=u) (d':=.lst (z0.set at' u)) rfl (bM (a:=.lst z0) (b:=.int ((at':Int)-1)) rfl (bM (a:=nD at') (b:=.int 1) rfl rfl rfl) hx) rfl (C8 (by omega))
    .have n3:(fL (bW (f2 (f2 (gv 0) (ci 7) cP) (ci 3) eqD)) (bW (f2 (gv 1) (ci 1) kx))) [some (nD c),some (nD n),some (.lst z0),some (nD at'),some (.lst [.int (-1),nD n,.bl true,.str "0",.non,.int (10^30),.bl false])]=.ok false:=by
      by_cases c4:c%7=3
      .rw[decide_eq_true c4]at e3;rw[decide_eq_false (fun z=>c3 ⟨c4,z⟩)]at g1;exact(oa e3).trans g1
      .rw[decide_eq_false c4]at e3;exact rX e3
     refine⟨z0.set at' v,fun d hd=>(UJ hd).elim (hf d) (fun e=>by rw[e];exact hfv),by simp;omega,Ig (i:=at') (by rw[n_ (by omega)]) hbv,?_⟩;refine(aZ ((db n3).trans (e_skip _))).trans ((aZ (r':=[some (nD c),some (nD n),some (.lst (z0.set at' v)),some (nD at'),some (.lst [.int (-1),nD n,.bl true,.str "0",.non,.int (10^30),.bl false])]) ?_).trans (cQ (dc rfl)));exact mT (d:=.lst z0) (k:=nD at') (v:=v) (d':=.lst (z0.set at' v)) rfl pick rfl (C8 (by omega))
theorem KL{m:List Md}{nm:Str}{fl:aS->Res (List D)}{r:aS}{d:D}(h:fl r=.ok [d]):lv m nm fl r=.exc (xD nm []) (forget m r):=by unfold lv;rw[h,onE_ok];rfl
section
variable{rz:List (List Nat)}{n m:Nat}
theorem Oe(h0:rz≠[])(hr:rz.length=n)(hm:(rz.headD []).length=m)(h:n<m):pk [WD rz]=.ok (.bl false):=by
 refine dJ (B:=Ak) (n:=1) ?_;unfold Ak;have th:lc [WD rz]=.ok (nD m):=by cases rz with
 |nil=>exact absurd rfl h0
 |cons r t=>have:=zR (row:=r) (rest:=t);rw[show r.length=m from hm]at this;exact this
 refine cQ (dc (bM (a:=nD m) (b:=nD n) (cW (aR (d:=WD rz) rfl aX) th) (dW (aR (d:=WD rz) rfl aX) (by rw[qb,hr])) ?_));rw[j5,decide_eq_false (by omega)]
theorem MT(h:pk [WD rz]=.ok (.bl false)):tm [WD rz]=.exc (xD "NotSquare" []):=by have e:vI [WD rz]=.exc (xD "NotSquare" []):=mY (B:=A7) (n:=1) (gH ((dI (hU (b:=false) (gW (d:=.bl false) (cW (aR (d:=WD rz) rfl aX) h) rfl))).trans (gH (KL (d:=.str "there must be as many things as hands") rfl))));exact mY (B:=yR) (n:=3) (gH (on (km (aR (d:=WD rz) rfl aX) e)))
theorem Oa(h:pk [WD rz]=.ok (.bl false)):vG [WD rz]=.ok (BL iP):=by
 refine dJ (B:=A0) (n:=3) ?_;unfold A0;refine(aZ (r':=[some (WD rz),some .non,none]) rfl).trans ?_;refine(aZ (r':=[none,some (BL iP),none]) ?_).trans (cQ (dc rfl));refine(D8 (nm := "NotSquare") (ds:=[]) (r':=[none,some .non,none]) (r2:=[none,some (BL iP),some (xD "NotSquare" [])]) ?_ (by decide+kernel) ?_).trans rfl
 .exact gH (on (km (aR (d:=WD rz) rfl aX) (MT h)))
 .exact aZ (c8 (cW (aR (d:=xD "NotSquare" []) rfl aX) Mc))
end
theorem Jw(a b:Nat):minD [nD a,nD b]=some (nD (min a b)):=by
 show some (D.int (if (b:Int)<(a:Int)then(b:Int)else(a:Int)))=some (D.int ((min a b:Nat):Int));by_cases h:b<a
 .rw[if_pos (by omega),Nat.min_eq_right (by omega)]
 .rw[if_neg (by omega),W2 (by omega)]
theorem Ib(a b:Nat):maxD [nD a,nD b]=some (nD (max a b)):=by
 show some (D.int (if (b:Int)>(a:Int)then(b:Int)else(a:Int)))=some (D.int ((max a b:Nat):Int));by_cases h:b>a
 .rw[if_pos (by omega),Nat.max_eq_right (by omega)]
 .rw[if_neg (by omega),Nat.max_eq_left (by omega)]
theorem LW(i j:Int):jL [.int i,.int j]=if-(2^62)<=i/\i<2^62/\-(2^62)<=j/\j<2^62 then some (eD i (j-i).toNat)else none:=rfl
theorem IV{a b:Nat}(ha:a<=1000)(hb:b<=1000):jL [nD a,nD b]=some (((C_ (b-a)).map fun i=>a+i).map nD):=by
 have e:((b:Int)-(a:Int)).toNat=b-a:=by omega
 rw[LW,if_pos ⟨by omega,by omega,by omega,by omega⟩,e,QT];unfold eD;refine congrArg some (RD fun i _=>?_);show D.int ((a:Int)+(i:Int))=D.int ((a+i:Nat):Int);rw[W1]
theorem LQ(ds:List D)(k:Int):i8 (.lst ds) (.int k)=if-(2^62)<=k/\k<2^62/\ds.length*k.toNat<=sizeLine then some (.lst ((y_ k.toNat ds).flatten))else none:=rfl
theorem C1{k:Nat}(h:k<=60):i8 (.lst [.bl false]) (nD k)=some (BL (y_ k false)):=by
 rw[LQ,if_pos ⟨by omega,by omega,by rw[QK,Rw,SY];omega⟩,Rw];congr 2
 induction k with
|zero=>rfl
|succ k ih=>rw[Rc,Rm,ih (by omega),Rc];rfl
theorem vV(l:List Bool):∀d∈l.map D.bl,Fl d:=fun d hd=>by obtain⟨b,_,rfl⟩:=B_.mp hd;exact .bl b
theorem GL(l:List Bool):neD (BL l) (BL l)=some (.bl false):=CH (vV l)
theorem JA(l:List Bool)(j:Nat):neD (.lst [BL l,nD j]) (.lst [BL l,nD j])=some (.bl false):=by
 have s1:dD 59 (BL l):=oO.mpr fun d hd=>(vV l d hd).shp _;have sh:dD 60 (.lst [BL l,nD j]):=oO.mpr fun d hd=>by
  rcases w_.mp hd with z|z
  .rw[z];exact s1
  .rw[u_.mp z];exact(Fl.int _).shp _
 unfold neD;rw[yH rfl sh sh];unfold mv;have e1:Rz (bV (BL l)) (bV (BL l))=true:=by simp only[bV,Rz,wV (vV l)]
 have e2:Rz (bV (nD j)) (bV (nD j))=true:=by simp[bV,Rz]
 simp only[bV,zc5,Rz,RP]at e1 e2 ⊢;simp only[e1,e2];rfl
theorem Ip(l k:List Nat):eqD (.tup [TN l,TN k]) (.tup [TN l,TN k])=some (.bl true):=by
 have s1:∀l:List Nat,dD 59 (TN l):=fun l=>sN.mpr Hd;have sh:dD 60 (.tup [TN l,TN k]):=sN.mpr fun d hd=>by
  rcases w_.mp hd with z|z
  .rw[z];exact s1 l
  .rw[u_.mp z];exact s1 k
 unfold eqD;rw[yH rfl sh sh];unfold mv;have e1:∀l:List Nat,Rz (bV (TN l)) (bV (TN l))=true:=fun l=>by simp only[bV,Rz,ET,decide_true]
 have e:=e1 l;have e':=e1 k;simp only[bV,zc5,Rz,RP]at e e' ⊢;simp only[e,e'];rfl
section
variable{ns:List Int}{c1 n m k:Nat}{rz:List (List Nat)}{O A:D}{zs:List D}
abbrev nC(ns:List Int)(c1 n m:Nat)(rz:List (List Nat))(O A:D)(x7 x8 x9 x10 x11:Option D):aS:=[some (IN ns),some (nD c1),some (nD n),some (nD m),some (WD rz),some O,some A,x7,x8,x9,x10,x11]
theorem CW(hf:∀d∈zs,Fl d)(h:jz [WD rz,.lst zs]=.exc (iz n zs)):∀(ws:List Nat)(x10 x11:Option D),∃y10 y11,bT (cU 10) Dw (ws.map nD) (nC ns c1 n m rz O A (some (nD k)) (some (.lst zs)) (some (.lst [BL iW,nD (fwN n zs)])) x10 x11)=.nx (nC ns c1 n m rz O A (some (nD k)) (some (.lst zs)) (some (.lst [BL iW,nD (fwN n zs)])) y10 y11)
|[],x10,x11=>⟨x10,x11,jx⟩
|w::ws,x10,x11=>by obtain⟨y10,y11,ih⟩:=CW hf h ws (some (nD w)) (some (.lst zs));refine⟨y10,y11,?_⟩;rw[<-ih];refine jt (r1:=nC ns c1 n m rz O A (some (nD k)) (some (.lst zs)) (some (.lst [BL iW,nD (fwN n zs)])) (some (nD w)) x11) rfl ?_;refine(aZ (c8 (d:=.lst zs) (dW (aR (d:=.lst zs) rfl aX) rfl))).trans (aZ ((db ?_).trans (e_skip _)));refine(fK (dk (bM (a:=.lst [BL iW,nD (fwN n zs)]) (b:=.lst [BL iW,nD (fwN n zs)]) (d:=.bl false) (cW (aR (d:=nD ((w+k)%4)) (bM (a:=nD (w+k)) (b:=nD 4) (bM (a:=nD w) (b:=nD k) rfl rfl (lU _ _)) rfl (lY (by decide))) (aR (d:=WD rz) rfl (aR (d:=O) rfl (aR (d:=.lst zs) rfl aX)))) (Pe (Td _ (by decide)) h)) rfl (JA _ _)))).trans ?_;exact dk (bM (a:=.lst zs) (b:=.lst zs) rfl rfl (CH hf))
theorem CD(h1:1<=n)(h7:n<=7)(hr:rz.length=n):∀(ks:List Nat)(x7 x8 x9 x10 x11:Option D),(∀k∈ks,k<=60)->∃y7 y8 y9 y10 y11,bT (cU 7) Dj (ks.map nD) (nC ns c1 n m rz O A x7 x8 x9 x10 x11)=.nx (nC ns c1 n m rz O A y7 y8 y9 y10 y11)
|[],x7,x8,x9,x10,x11,_=>⟨x7,x8,x9,x10,x11,jx⟩
|k::ks,x7,x8,x9,x10,x11,hk=>by obtain⟨c,hc⟩:=sV ns k (by have:=hk k k_;omega);obtain⟨zs,z1,z2,z3,z4⟩:=LX (c:=c) h1 h7;obtain⟨y10,y11,hw⟩:=CW (ns:=ns) (c1:=c1) (n:=n) (m:=m) (k:=k) (O:=O) (A:=A) z1 (MU hr z1 (by omega) z3) (C_ 4) x10 x11;obtain⟨v7,v8,v9,v10,v11,ih⟩:=CD h1 h7 hr ks (some (nD k)) (some (.lst zs)) (some (.lst [BL iW,nD (fwN n zs)])) y10 y11 (fun z hz=>hk z (m_ _ hz));refine⟨v7,v8,v9,v10,v11,?_⟩;rw[<-ih];refine jt (r1:=nC ns c1 n m rz O A (some (nD k)) x8 x9 x10 x11) rfl ?_;refine(aZ (c8 (d:=.lst zs) (cW (aR (d:=nD c) (cW (aR (d:=IN ns) rfl (aR (d:=nD k) rfl aX)) hc) (aR (d:=nD n) rfl aX)) z4))).trans ?_;have due:addA (BL (y_ 8 false)) (BL [true,false,false,true,true])=some (BL iW):=l6 (by simp);refine(aZ (c8 (d:=.lst [BL iW,nD (fwN n zs)]) (gj (aR (d:=BL iW) (bM (a:=BL (y_ 8 false)) (b:=BL [true,false,false,true,true]) (bM (a:=.lst [.bl false]) (b:=nD 8) (gj (aR (d:=.bl false) rfl aX) (by simp)) rfl (C1 (by decide))) (gj (aR (d:=.bl true) rfl (aR (d:=.bl false) rfl (aR (d:=.bl false) rfl (aR (d:=.bl true) rfl (aR (d:=.bl true) rfl aX))))) (by simp)) due) (aR (d:=nD (fwN n zs)) (cW (aR (d:=.lst zs) rfl (aR (d:=nD n) rfl aX)) (IX z1 (by omega))) aX)) (by simp)))).trans ?_;exact aZ ((iC (ds:=(C_ 4).map nD) (oy (aR (d:=nD 4) rfl aX) (pV (by decide)))).trans hw)
end
theorem GK(ns:List Int):rK [IN ns]=.ok (.bl true):=by
 obtain⟨c1,h1⟩:=sV ns 1 (by decide);obtain⟨c2,h2⟩:=sV ns 2 (by decide);have hn:c1%7<7:=Td _ (by decide);have hq:c1/7%(9-(1+c1%7))<9-(1+c1%7):=Td _ (by omega);obtain⟨rz,r1,r2,r3⟩:=OC ns 4 (1+c1%7) (1+c1%7+c1/7%(9-(1+c1%7))) (by omega) (by omega) (by omega);have hsub:lj (.int 9) (nD (1+c1%7))=some (nD (9-(1+c1%7))):=by
  have e:(9:Int)-((1+c1%7:Nat):Int)=((9-(1+c1%7):Nat):Int):=by omega
  show some (D.int ((9:Int)-((1+c1%7:Nat):Int)))=some (D.int _);rw[e]
 generalize en:1+c1%7=n at r1 r2 r3 hsub hq;generalize em:n+c1/7%(9-n)=m at r2 r3;have hn1:1<=n:=by omega
 have hn7:n<=7:=by omega
 have hnm:n<=m:=by omega
 have hm8:m<=8:=by omega
 obtain⟨owns,w1,w2,w3⟩:=MI c2 n m (by omega) (by omega);have S:Scene rz owns none n m:=⟨hn1,hn7,hnm,hm8,r1,r2,w1,w2,fun l z=>nomatch z⟩
 have t:=Rg.IE (W:=Wr rz) (O:=own owns) ((s0 rz none).line.length+1) (s0 rz none) (by omega);generalize Rg.nQ (Wr rz) (own owns) ((s0 rz none).line.length+1) (s0 rz none)=a at t;have hll:(s0 rz none).line.length=n:=by rw[S.line_perm.length_eq];simp
 have ha:=Pv S.ord S.ne (by omega) S.snd (by omega) (fun h=>by rw[r1];exact S.mem) t;have hb:=Py S.ord S.ne (by omega) S.snd (fun h hh=>S.mem.mpr (by omega)) t;have pair:∀(x6 x7 x8 x9 x10 x11:Option D),iq (aP (bX (aP (gv 4) (aP (gv 5) aN)) [D.non] nk) (aP (bX (aP (gv 4) (aP (gv 5) aN)) [D.non] nr) aN)) [some (IN ns),some (nD c1),some (nD n),some (nD m),some (WD rz),some (OD owns),x6,x7,x8,x9,x10,x11]=.ok (.tup [TN ((C_ rz.length).map a),TN ((C_ rz.length).map a)]):=fun x6 x7 x8 x9 x10 x11=>kP (aR (cW (aR (d:=WD rz) rfl (aR (d:=OD owns) rfl aX)) hb) (aR (cW (aR (d:=WD rz) rfl (aR (d:=OD owns) rfl aX)) ha) aX)) (by simp);refine dJ (B:=rT) (n:=12) ?_;unfold rT;refine(aZ (c8 (cW (aR (d:=IN ns) rfl (aR (d:=nD 1) rfl aX)) h1))).trans ?_;refine(aZ (c8 (d:=nD n) (bM (a:=nD 1) (b:=nD (c1%7)) rfl (bM (a:=nD c1) (b:=nD 7) rfl rfl (lY (by decide))) (by rw[lU,en])))).trans ?_;refine(aZ (c8 (d:=nD m) (bM (a:=nD n) (b:=nD (c1/7%(9-n))) rfl (bM (a:=nD (c1/7)) (b:=nD (9-n)) (bM (a:=nD c1) (b:=nD 7) rfl rfl (sD (by decide) (by decide))) (bM (a:=.int 9) (b:=nD n) rfl rfl hsub) (lY (by omega))) (by rw[lU,em])))).trans ?_;refine(aZ (c8 (cW (aR (d:=IN ns) rfl (aR (d:=nD 4) rfl (aR (d:=nD n) rfl (aR (d:=nD m) rfl aX)))) r3))).trans ?_;refine(aZ (c8 (d:=OD owns) (cW (aR (cW (aR (d:=IN ns) rfl (aR (d:=nD 2) rfl aX)) h2) (aR (d:=nD n) rfl (aR (d:=nD m) rfl aX))) w3))).trans ?_;refine(aZ (c8 (pair none none none none none none))).trans ?_;have hmx:max 14 (min ns.length 42)<=42:=Nat.max_le.mpr ⟨by omega,Wt _ _⟩;obtain⟨y7,y8,y9,y10,y11,hk⟩:=CD (ns:=ns) (c1:=c1) (n:=n) (m:=m) (rz:=rz) (O:=OD owns) (A:=.tup [TN ((C_ rz.length).map a),TN ((C_ rz.length).map a)]) hn1 hn7 r1 ((C_ (max 14 (min ns.length 42)-12)).map fun i=>12+i) none none none none none (fun k hk=>by obtain⟨i,hi,rfl⟩:=B_.mp hk;have:=QJ.mp hi;omega);refine(aZ ((iC (oy (aR (d:=nD 12) rfl (aR (d:=nD (max 14 (min ns.length 42))) (dW (aR (d:=nD 14) rfl (aR (d:=nD (min ns.length 42)) (dW (aR (dW (aR (d:=IN ns) rfl aX) (m7 _ _)) (aR (d:=nD 42) rfl aX)) (Jw _ _)) aX)) (Ib _ _)) aX)) (IV (by omega) (by omega)))).trans hk)).trans ?_;refine(aZ ((db ?_).trans (e_skip _))).trans (cQ (dc (bM (pair _ _ _ _ _ _) rfl (Ip _ _))));have tg:=dk (bM (f:=gv 3) (f':=gv 2) (r:=nC ns c1 n m rz (OD owns) (.tup [TN ((C_ rz.length).map a),TN ((C_ rz.length).map a)]) y7 y8 y9 y10 y11) (a:=nD m) (b:=nD n) rfl rfl (rR m n));by_cases c:n<m
 .rw[decide_eq_true c]at tg;have d1:addA (BL [false,true]) (BL (y_ 9 false))=some (BL [false,true,false,false,false,false,false,false,false,false,false]):=l6 (by simp);have d2:addA (BL [false,true,false,false,false,false,false,false,false,false,false]) (BL [true,true])=some (BL iP):=l6 (by simp);refine(oa tg).trans (dk (bM (a:=BL iP) (b:=BL iP) (cW (aR (d:=WD rz) rfl aX) (Oa (Oe S.ne r1 S.row0 c))) ?_ (GL _)));exact bM (a:=BL [false,true,false,false,false,false,false,false,false,false,false]) (b:=BL [true,true]) (bM (a:=BL [false,true]) (b:=BL (y_ 9 false)) (gj (aR (d:=.bl false) rfl (aR (d:=.bl true) rfl aX)) (by simp)) (bM (a:=.lst [.bl false]) (b:=nD 9) (gj (aR (d:=.bl false) rfl aX) (by simp)) rfl (C1 (by decide))) d1) (gj (aR (d:=.bl true) rfl (aR (d:=.bl true) rfl aX)) (by simp)) d2
 .rw[decide_eq_false c]at tg;exact rX tg
theorem main(ns:List Int)(_:ns.length<=63):rK [.lst (ns.map .int)]=.ok (.bl true):=GK ns
end Law
open PySem PySem.W PyProof.Rows
namespace Law
abbrev Ql:List PySem.Str:=["TradeError","TooMany","NotSquare","NoFraction","NoDeed","NoLine","NoRow","NoOwn","NotOwned","NoOrder","NoText","NoTable"]
open PySem PySem.Spec PyProof.Rows L2 DL
theorem Bp{P:A_}{w:M_}{K:W.Frag}{h:Heap}{mg:Str->Option a_}(KX:K.In h)(G:h.Ns N_ mg){cA cB cC cD cE cF cG cH cI cJ cK cL:Addr}{bA bB bC bD bE bF bG bH bI bJ bK bL:List a_}{nJ:Addr}{fJ:Addr}{ocJ kVJ docJ pmJ cdvJ ctJ:a_}{odJ anJ:Option Addr}{oslJ:Array (Option a_)}{nK:Addr}{L:DL.QL}(aA:W.nsIn K N_ "TradeError" = some (some (.ref cA)))(aB:W.nsIn K N_ "TooMany" = some (some (.ref cB)))(aC:W.nsIn K N_ "NotSquare" = some (some (.ref cC)))(aD:W.nsIn K N_ "NoFraction" = some (some (.ref cD)))(aE:W.nsIn K N_ "NoDeed" = some (some (.ref cE)))(aF:W.nsIn K N_ "NoLine" = some (some (.ref cF)))(aG:W.nsIn K N_ "NoRow" = some (some (.ref cG)))(aH:W.nsIn K N_ "NoOwn" = some (some (.ref cH)))(aI:W.nsIn K N_ "NotOwned" = some (some (.ref cI)))(aJ:W.nsIn K N_ "NoOrder" = some (some (.ref cJ)))(aK:W.nsIn K N_ "NoText" = some (some (.ref cK)))(aL:W.nsIn K N_ "NoTable" = some (some (.ref cL)))(oA:DL.dO K cA=some (bA,(l_ "TradeError")))(beA:bA.contains (Value.type "BaseException")=true)(boA:bA.contains (Value.type "object")=true)(gaA:W.findIn K (.ref cA) "__getattribute__" = some (some (.builtin "BaseException.__getattribute__")))(gnA:W.findIn K (.ref cA) "__getattr__" = some (none))(gcA:W.findIn K (.ref cA) "__class__" = some (some (.builtin "object.__class__")))(unA:DL.eN K "TradeError" cA=true)(oB:DL.dO K cB=some (bB,(l_ "TooMany")))(beB:bB.contains (Value.type "BaseException")=true)(boB:bB.contains (Value.type "object")=true)(gaB:W.findIn K (.ref cB) "__getattribute__" = some (some (.builtin "BaseException.__getattribute__")))(gnB:W.findIn K (.ref cB) "__getattr__" = some (none))(gcB:W.findIn K (.ref cB) "__class__" = some (some (.builtin "object.__class__")))(unB:DL.eN K "TooMany" cB=true)(oC:DL.dO K cC=some (bC,(l_ "NotSquare")))(beC:bC.contains (Value.type "BaseException")=true)(boC:bC.contains (Value.type "object")=true)(gaC:W.findIn K (.ref cC) "__getattribute__" = some (some (.builtin "BaseException.__getattribute__")))(gnC:W.findIn K (.ref cC) "__getattr__" = some (none))(gcC:W.findIn K (.ref cC) "__class__" = some (some (.builtin "object.__class__")))(unC:DL.eN K "NotSquare" cC=true)(oD:DL.dO K cD=some (bD,(l_ "NoFraction")))(beD:bD.contains (Value.type "BaseException")=true)(boD:bD.contains (Value.type "object")=true)(gaD:W.findIn K (.ref cD) "__getattribute__" = some (some (.builtin "BaseException.__getattribute__")))(gnD:W.findIn K (.ref cD) "__getattr__" = some (none))(gcD:W.findIn K (.ref cD) "__class__" = some (some (.builtin "object.__class__")))(unD:DL.eN K "NoFraction" cD=true)(oE:DL.dO K cE=some (bE,(l_ "NoDeed")))(beE:bE.contains (Value.type "BaseException")=true)(boE:bE.contains (Value.type "object")=true)(gaE:W.findIn K (.ref cE) "__getattribute__" = some (some (.builtin "BaseException.__getattribute__")))(gnE:W.findIn K (.ref cE) "__getattr__" = some (none))(gcE:W.findIn K (.ref cE) "__class__" = some (some (.builtin "object.__class__")))(unE:DL.eN K "NoDeed" cE=true)(oF:DL.dO K cF=some (bF,(l_ "NoLine")))(beF:bF.contains (Value.type "BaseException")=true)(boF:bF.contains (Value.type "object")=true)(gaF:W.findIn K (.ref cF) "__getattribute__" = some (some (.builtin "BaseException.__getattribute__")))(gnF:W.findIn K (.ref cF) "__getattr__" = some (none))(gcF:W.findIn K (.ref cF) "__class__" = some (some (.builtin "object.__class__")))(unF:DL.eN K "NoLine" cF=true)(oG:DL.dO K cG=some (bG,(l_ "NoRow")))(beG:bG.contains (Value.type "BaseException")=true)(boG:bG.contains (Value.type "object")=true)(gaG:W.findIn K (.ref cG) "__getattribute__" = some (some (.builtin "BaseException.__getattribute__")))(gnG:W.findIn K (.ref cG) "__getattr__" = some (none))(gcG:W.findIn K (.ref cG) "__class__" = some (some (.builtin "object.__class__")))(unG:DL.eN K "NoRow" cG=true)(oH:DL.dO K cH=some (bH,(l_ "NoOwn")))(beH:bH.contains (Value.type "BaseException")=true)(boH:bH.contains (Value.type "object")=true)(gaH:W.findIn K (.ref cH) "__getattribute__" = some (some (.builtin "BaseException.__getattribute__")))(gnH:W.findIn K (.ref cH) "__getattr__" = some (none))(gcH:W.findIn K (.ref cH) "__class__" = some (some (.builtin "object.__class__")))(unH:DL.eN K "NoOwn" cH=true)(oI:DL.dO K cI=some (bI,(l_ "NotOwned")))(beI:bI.contains (Value.type "BaseException")=true)(boI:bI.contains (Value.type "object")=true)(gaI:W.findIn K (.ref cI) "__getattribute__" = some (some (.builtin "BaseException.__getattribute__")))(gnI:W.findIn K (.ref cI) "__getattr__" = some (none))(gcI:W.findIn K (.ref cI) "__class__" = some (some (.builtin "object.__class__")))(unI:DL.eN K "NotOwned" cI=true)(oJ:DL.dO K cJ=some (bJ,(l_ "NoOrder")))(beJ:bJ.contains (Value.type "BaseException")=true)(boJ:bJ.contains (Value.type "object")=true)(gaJ:W.findIn K (.ref cJ) "__getattribute__" = some (some (.builtin "BaseException.__getattribute__")))(gnJ:W.findIn K (.ref cJ) "__getattr__" = some (none))(gcJ:W.findIn K (.ref cJ) "__class__" = some (some (.builtin "object.__class__")))(unJ:DL.eN K "NoOrder" cJ=true)(oK:DL.dO K cK=some (bK,(l_ "NoText")))(beK:bK.contains (Value.type "BaseException")=true)(boK:bK.contains (Value.type "object")=true)(gaK:W.findIn K (.ref cK) "__getattribute__" = some (some (.builtin "BaseException.__getattribute__")))(gnK:W.findIn K (.ref cK) "__getattr__" = some (none))(gcK:W.findIn K (.ref cK) "__class__" = some (some (.builtin "object.__class__")))(unK:DL.eN K "NoText" cK=true)(oL:DL.dO K cL=some (bL,(l_ "NoTable")))(beL:bL.contains (Value.type "BaseException")=true)(boL:bL.contains (Value.type "object")=true)(gaL:W.findIn K (.ref cL) "__getattribute__" = some (some (.builtin "BaseException.__getattribute__")))(gnL:W.findIn K (.ref cL) "__getattr__" = some (none))(gcL:W.findIn K (.ref cL) "__class__" = some (some (.builtin "object.__class__")))(unL:DL.eN K "NoTable" cL=true)(gg:W.specialIn K (.builtin "object.__class__") "__get__" = some (some (.builtin "getset_descriptor.__get__")))(gt:W.takesIn K (.builtin "object.__class__")=some true)(hL:L=[((l_ "TradeError"),cA,bA),((l_ "TooMany"),cB,bB),((l_ "NotSquare"),cC,bC),((l_ "NoFraction"),cD,bD),((l_ "NoDeed"),cE,bE),((l_ "NoLine"),cF,bF),((l_ "NoRow"),cG,bG),((l_ "NoOwn"),cH,bH),((l_ "NotOwned"),cI,bI),((l_ "NoOrder"),cJ,bJ),((l_ "NoText"),cK,bK),((l_ "NoTable"),cL,bL)])(nsJ:DL.rn K cJ=some nJ)(zJ:DL.iu K cJ nJ=true)(g0J:W.findIn K (.ref cJ) "__setattr__" = some (some (.builtin "object.__setattr__")))(g1J:W.findIn K (.ref cJ) "at" = some none)(spA:W.specialIn K (.ref cA) "__getattribute__" = some (some (.builtin "type.__getattribute__")))(rdA:W.readsIn K cA (.type "type")=true)(fnA:W.findCls K (.ref cA) (.type "type") "__init__" = some (.val (.builtin "ValueError.__init__")))(iJ:W.nsIn K nJ "__init__" = some (some (.ref fJ)))(kpJ:W.keepIn K (.ref cJ)=true)(lJ:K.lookup fJ=some ⟨ocJ,odJ,.func (W.fnOf "__init__" "NoOrder.__init__" (L2.bS Law.ma) (L2.aW Law.ma) (L2.aM Law.ma) .none kVJ docJ pmJ anJ cdvJ ctJ),oslJ⟩)(cdJ:W.codeIn K cdvJ "NoOrder.__init__" = true)(kkJ:W.keepIn K (.ref fJ)=true)(fcJ:W.typeIn K (.ref fJ)=some (.type "function"))(eC:W.excIn K cC DL.gp "ValueError.__new__" = true)(nnE:W.kitOne K (.type "NoneType") (.ref cE)=some false)(kE:(SU L fun q=>W.kitOne K (.ref q.2.1) (.ref cE)==Law.oZ q.1)=true)(nnD:W.kitOne K (.type "NoneType") (.ref cD)=some false)(kD:(SU L fun q=>W.kitOne K (.ref q.2.1) (.ref cD)==Law.pv q.1)=true)(nnC:W.kitOne K (.type "NoneType") (.ref cC)=some false)(kC:(SU L fun q=>W.kitOne K (.ref q.2.1) (.ref cC)==Law.pc q.1)=true)(nnB:W.kitOne K (.type "NoneType") (.ref cB)=some false)(kB:(SU L fun q=>W.kitOne K (.ref q.2.1) (.ref cB)==Law.oW q.1)=true)(nnI:W.kitOne K (.type "NoneType") (.ref cI)=some false)(kI:(SU L fun q=>W.kitOne K (.ref q.2.1) (.ref cI)==Law.pe q.1)=true)(nnH:W.kitOne K (.type "NoneType") (.ref cH)=some false)(kH:(SU L fun q=>W.kitOne K (.ref q.2.1) (.ref cH)==Law.oR q.1)=true)(nnG:W.kitOne K (.type "NoneType") (.ref cG)=some false)(kG:(SU L fun q=>W.kitOne K (.ref q.2.1) (.ref cG)==Law.oS q.1)=true)(nnF:W.kitOne K (.type "NoneType") (.ref cF)=some false)(kF:(SU L fun q=>W.kitOne K (.ref q.2.1) (.ref cF)==Law.o6 q.1)=true)(nnL:W.kitOne K (.type "NoneType") (.ref cL)=some false)(kL:(SU L fun q=>W.kitOne K (.ref q.2.1) (.ref cL)==Law.oV q.1)=true)(nnK:W.kitOne K (.type "NoneType") (.ref cK)=some false)(kK:(SU L fun q=>W.kitOne K (.ref q.2.1) (.ref cK)==Law.o7 q.1)=true)(nnJ:W.kitOne K (.type "NoneType") (.ref cJ)=some false)(kJ:(SU L fun q=>W.kitOne K (.ref q.2.1) (.ref cJ)==Law.oU q.1)=true)(nn_ValueError:W.kitOne K (.type "NoneType") (.type "ValueError")=some false)(k_ValueError:(SU L fun q=>W.kitOne K (.ref q.2.1) (.type "ValueError")==Law.pj q.1)=true)(nnA:W.kitOne K (.type "NoneType") (.ref cA)=some false)(kA:(SU L fun q=>W.kitOne K (.ref q.2.1) (.ref cA)==Law.pi q.1)=true)(hAA:(Value.ref cA::bA).contains (.ref cA)=true)(hAB:(Value.ref cB::bB).contains (.ref cA)=true)(hAC:(Value.ref cC::bC).contains (.ref cA)=true)(hAD:(Value.ref cD::bD).contains (.ref cA)=true)(hAE:(Value.ref cE::bE).contains (.ref cA)=true)(hAF:(Value.ref cF::bF).contains (.ref cA)=true)(hAG:(Value.ref cG::bG).contains (.ref cA)=true)(hAH:(Value.ref cH::bH).contains (.ref cA)=true)(hAI:(Value.ref cI::bI).contains (.ref cA)=true)(hAJ:(Value.ref cJ::bJ).contains (.ref cA)=true)(hAK:(Value.ref cK::bK).contains (.ref cA)=true)(hAL:(Value.ref cL::bL).contains (.ref cA)=true)(hJJ:(Value.ref cJ::bJ).contains (.ref cJ)=true)(nsK:DL.rn K cK=some nK)(zK:DL.iu K cK nK=true)(g0K:W.findIn K (.ref cK) "__setattr__" = some (some (.builtin "object.__setattr__")))(g1K:W.findIn K (.ref cK) "at" = some none):∃(C_TradeError:Addr)(C_TooMany:Addr)(C_NotSquare:Addr)(C_NoFraction:Addr)(C_NoDeed:Addr)(C_NoLine:Addr)(C_NoRow:Addr)(C_NoOwn:Addr)(C_NotOwned:Addr)(C_NoOrder:Addr)(C_NoText:Addr)(C_NoTable:Addr)(bm_TradeError:List a_)(bm_TooMany:List a_)(bm_NotSquare:List a_)(bm_NoFraction:List a_)(bm_NoDeed:List a_)(bm_NoLine:List a_)(bm_NoRow:List a_)(bm_NoOwn:List a_)(bm_NotOwned:List a_)(bm_NoOrder:List a_)(bm_NoText:List a_)(bm_NoTable:List a_),(∀base,XCI P w K mg base "NoOrder" C_NoOrder "at")/\(XN K "NoOrder" C_NoOrder)/\(XC K mg "NotSquare" C_NotSquare)/\(XN K "NotSquare" C_NotSquare)/\(mg "NoDeed" = some (.ref C_NoDeed))/\(IsxOk K (.ref C_NoDeed) oZ)/\(mg "NoFraction" = some (.ref C_NoFraction))/\(IsxOk K (.ref C_NoFraction) pv)/\(mg "NotSquare" = some (.ref C_NotSquare))/\(IsxOk K (.ref C_NotSquare) pc)/\(mg "TooMany" = some (.ref C_TooMany))/\(IsxOk K (.ref C_TooMany) oW)/\(mg "NotOwned" = some (.ref C_NotOwned))/\(IsxOk K (.ref C_NotOwned) pe)/\(mg "NoOwn" = some (.ref C_NoOwn))/\(IsxOk K (.ref C_NoOwn) oR)/\(mg "NoRow" = some (.ref C_NoRow))/\(IsxOk K (.ref C_NoRow) oS)/\(mg "NoLine" = some (.ref C_NoLine))/\(IsxOk K (.ref C_NoLine) o6)/\(mg "NoTable" = some (.ref C_NoTable))/\(IsxOk K (.ref C_NoTable) oV)/\(mg "NoText" = some (.ref C_NoText))/\(IsxOk K (.ref C_NoText) o7)/\(mg "NoOrder" = some (.ref C_NoOrder))/\(IsxOk K (.ref C_NoOrder) oU)/\(IsxOk K (.type "ValueError") pj)/\(mg "TradeError" = some (.ref C_TradeError))/\(IsxOk K (.ref C_TradeError) pi)/\(XA K C_TradeError bm_TradeError)/\(lH K C_TradeError uU)/\(XA K C_NoOrder bm_NoOrder)/\(lH K C_NoOrder tK)/\(pG K "at" pO):=by
 have qA:=(DL.jp oA beA boA gaA gnA gcA gg gt unA)
 have qB:=(DL.jp oB beB boB gaB gnB gcB gg gt unB)
 have qC:=(DL.jp oC beC boC gaC gnC gcC gg gt unC)
 have qD:=(DL.jp oD beD boD gaD gnD gcD gg gt unD)
 have qE:=(DL.jp oE beE boE gaE gnE gcE gg gt unE)
 have qF:=(DL.jp oF beF boF gaF gnF gcF gg gt unF)
 have qG:=(DL.jp oG beG boG gaG gnG gcG gg gt unG)
 have qH:=(DL.jp oH beH boH gaH gnH gcH gg gt unH)
 have qI:=(DL.jp oI beI boI gaI gnI gcI gg gt unI)
 have qJ:=(DL.jp oJ beJ boJ gaJ gnJ gcJ gg gt unJ)
 have qK:=(DL.jp oK beK boK gaK gnK gcK gg gt unK)
 have qL:=(DL.jp oL beL boL gaL gnL gcL gg gt unL)
 subst hL;have hN:List.map (·.1) [((l_ "TradeError"),cA,bA),((l_ "TooMany"),cB,bB),((l_ "NotSquare"),cC,bC),((l_ "NoFraction"),cD,bD),((l_ "NoDeed"),cE,bE),((l_ "NoLine"),cF,bF),((l_ "NoRow"),cG,bG),((l_ "NoOwn"),cH,bH),((l_ "NotOwned"),cI,bI),((l_ "NoOrder"),cJ,bJ),((l_ "NoText"),cK,bK),((l_ "NoTable"),cL,bL)]=Law.Ql:=rfl;have hf:DL.jo (fun q:Str×Addr×List a_=>DL.CF K q.1 q.2.1 q.2.2) [((l_ "TradeError"),cA,bA),((l_ "TooMany"),cB,bB),((l_ "NotSquare"),cC,bC),((l_ "NoFraction"),cD,bD),((l_ "NoDeed"),cE,bE),((l_ "NoLine"),cF,bF),((l_ "NoRow"),cG,bG),((l_ "NoOwn"),cH,bH),((l_ "NotOwned"),cI,bI),((l_ "NoOrder"),cJ,bJ),((l_ "NoText"),cK,bK),((l_ "NoTable"),cL,bL)]:=⟨qA,qB,qC,qD,qE,qF,qG,qH,qI,qJ,qK,qL,trivial⟩
 exact⟨cA,cB,cC,cD,cE,cF,cG,cH,cI,cJ,cK,cL,bA,bB,bC,bD,bE,bF,bG,bH,bI,bJ,bK,bL,DL.Hl KX G aJ kpJ zJ oJ (DL.rJ zJ oJ g0J g1J) iJ (L2.iO lJ cdJ kkJ) fcJ Law.JD (Law.Lf (L2.iO lJ cdJ kkJ) (DL.rJ zJ oJ g0J g1J) (W.mg_of KX G aA) ⟨spA,rdA,fnA⟩),qJ.xn,DL.Hh KX G aC eC,qC.xn,W.mg_of KX G aE,DL.i3 hN hf nnE kE,W.mg_of KX G aD,DL.i3 hN hf nnD kD,W.mg_of KX G aC,DL.i3 hN hf nnC kC,W.mg_of KX G aB,DL.i3 hN hf nnB kB,W.mg_of KX G aI,DL.i3 hN hf nnI kI,W.mg_of KX G aH,DL.i3 hN hf nnH kH,W.mg_of KX G aG,DL.i3 hN hf nnG kG,W.mg_of KX G aF,DL.i3 hN hf nnF kF,W.mg_of KX G aL,DL.i3 hN hf nnL kL,W.mg_of KX G aK,DL.i3 hN hf nnK kK,W.mg_of KX G aJ,DL.i3 hN hf nnJ kJ,DL.i3 hN hf nn_ValueError k_ValueError,W.mg_of KX G aA,DL.i3 hN hf nnA kA,qA.xa,DL.BH [((l_ "TradeError"),cA,bA),((l_ "TooMany"),cB,bB),((l_ "NotSquare"),cC,bC),((l_ "NoFraction"),cD,bD),((l_ "NoDeed"),cE,bE),((l_ "NoLine"),cF,bF),((l_ "NoRow"),cG,bG),((l_ "NoOwn"),cH,bH),((l_ "NotOwned"),cI,bI),((l_ "NoOrder"),cJ,bJ),((l_ "NoText"),cK,bK),((l_ "NoTable"),cL,bL)] (by intro q hq;simp only[w_,QZ,or_false]at hq;rcases hq with rfl|rfl|rfl|rfl|rfl|rfl|rfl|rfl|rfl|rfl|rfl|rfl <;> first|exact⟨qA,hAA⟩|exact⟨qB,hAB⟩|exact⟨qC,hAC⟩|exact⟨qD,hAD⟩|exact⟨qE,hAE⟩|exact⟨qF,hAF⟩|exact⟨qG,hAG⟩|exact⟨qH,hAH⟩|exact⟨qI,hAI⟩|exact⟨qJ,hAJ⟩|exact⟨qK,hAK⟩|exact⟨qL,hAL⟩) (fun nm h=>by have h2:=RI.mp h;simp only[w_,QZ,or_false]at h2;rcases h2 with rfl|rfl|rfl|rfl|rfl|rfl|rfl|rfl|rfl|rfl|rfl|rfl <;> simp),qJ.xa,DL.BH [((l_ "NoOrder"),cJ,bJ)] (by intro q hq;simp only[w_,QZ,or_false]at hq;rcases hq with rfl <;> first|exact⟨qJ,hJJ⟩) (fun nm h=>by have h2:=RI.mp h;simp only[w_,QZ,or_false]at h2;rcases h2 with rfl <;> simp),DL.Hi [((l_ "NoOrder"),cJ,bJ),((l_ "NoText"),cK,bK)] (by intro q hq;simp only[w_,QZ,or_false]at hq;rcases hq with rfl|rfl <;> first|exact⟨qJ,(DL.rJ zJ oJ g0J g1J)⟩|exact⟨qK,(DL.rJ zK oK g0K g1K)⟩) (fun nm h=>by have h2:=RI.mp h;simp only[w_,QZ,or_false]at h2;rcases h2 with rfl|rfl <;> simp)⟩
end Law
abbrev P0:=TX.prog
namespace PySem.W.Fast
def tw9117596481808312886:=0
def tw3690522979372879511:=0
def tw6312765585435479515:=0
def tw7594290447331678756:=0
def tw1789851315901235535:=0
def tw18238859619565639792:=0
def tw9446077887729703592:=0
def tw14567885049074537271:=0
def tw10478708337634304088:=0
def tw1232369321312018355:=0
def tw2336300682661592956:=0
def tw2094032861209679733:=0
def tw16495902191948172817:=0
def tw3998533826090993206:=0
def tw10792410180166772033:=0
def tw3147754475437676580:=0
def tw11376595388049645619:=0
def tw13930500140441881166:=0
def tw1217986620703604157:=0
def tw3200933137650666880:=0
def tw6300268753864283653:=0
def tw17286455984884350760:=0
def tw16409645560831187858:=0
def tw14153593961566160791:=0
def tw15064553847103457625:=0
def tw11351333520347333434:=0
def tw15007655947607210753:=0
def tw6433455110240502968:=0
def tw9913880647839588414:=0
def tw14589369333942280488:=0
def tw2908385665625819842:=0
def tw18166226565073305062:=0
def tw5670133011370187282:=0
def tw7109547580927781514:=0
def tw18382825127778944543:=0
def tw12884111957667118715:=0
def tw17365387679160162838:=0
def tw4247958309884207736:=0
def tw9849012808592182443:=0
def tw11468894206811728621:=0
def tw3000322152772397776:=0
def tw10768824078167107372:=0
def tw1973862884049997159:=0
def tw5409960411271361278:=0
def tw9073465194187833625:=0
def tw17816152543369548916:=0
def tw6067752984591584294:=0
def tw13859078851954314270:=0
def tw7457224338577165591:=0
def tw11565856796537605133:=0
def tw13666503516182682326:=0
def tw9667469077454479209:=0
def tw753104437761591851:=0
def tw4994354809144521610:=0
def tw11895520262517630013:=0
def tw4151983563055718029:=0
def tw3061518751511357507:=0
def tw11797382273073272633:=0
def tw1007981070137533786:=0
def tw18391909496672880723:=0
def tw919576092867989377:=0
def tw13238453305914229708:=0
def tw2588907322813333325:=0
def tw890482477030839484:=0
def tw18294402170600778282:=0
def tw1765126111045645159:=0
def tw2075294333561312359:=0
def tw14634969266189311662:=0
def tw5206809812391694962:=0
def tw6036242798547460:=0
def tw14840624405557678904:=0
def tw10122096641160659156:=0
def tw2641709264571155973:=0
def tw16424126373552430377:=0
def tw12557624969518331357:=0
def tw5529302397471571698:=0
def tw5658640730113362992:=0
def tw16055829406463321267:=0
def tw9951073656435100944:=0
def tw14664988358718031210:=0
def tw13417543638746912543:=0
def tw18156565127117310646:=0
def tw4305598208972719182:=0
def tw17508195461907439992:=0
def tw12085458668523010570:=0
def tw2464876653342756058:=0
def tw9767680045406495056:=0
def tw7066705635521766335:=0
def tw646027409830974999:=0
def tw9174525565545508538:=0
def tw4170905002269784139:=0
def tw7775794413661966446:=0
def tw4386824803667504723:=0
def tw10075531045633763036:=0
def tw8901220079114751215:=0
def tw11130230406931108926:=0
def tw13166824690789909687:=0
def tw8751402844395178862:=0
def tw12564498917358457909:=0
def tw5949199340282774914:=0
def tw4907837661467034305:=0
def tw11305903431359674144:=0
def tw11355338764501433188:=0
def tw2059489431231797808:=0
def tw5253713982692505107:=0
def tw1405389134805802918:=0
def tw7783454155919046729:=0
def tw5093594260412639237:=0
def tw1153164638605710135:=0
def tw2128987655937364734:=0
def tw14323963741277445503:=0
def tw538427740289160515:=0
def tw14152872464656354100:=0
def tw3373269585281402047:=0
def tw8977705423092060549:=0
def tw8566123533646960053:=0
def tw2144701265917041750:=0
def tw2024615513152196920:=0
def tw10846995458747600357:=0
def tw15202204528990696444:=0
def tw14073937068514449062:=0
def tw6832634703746321300:=0
def tw8538603089814990741:=0
def tw7207621922418729909:=0
def tw4801323387170120997:=0
def tw3543938932306855679:=0
def tw11388724724857283751:=0
def tw3200698641062585156:=0
def tw1003691711259814776:=0
def tw14748622601168588410:=0
def tw2888424594727501556:=0
def tw2091131833262832952:=0
def tw13992469400479124438:=0
def tw11320345583153704522:=0
def tw4791776318014870951:=0
def tw18140804800743201779:=0
def tw192461635370722271:=0
def tw4101686095511398948:=0
def tw5922148062607900474:=0
def tw5541699618922645301:=0
def tw8423477067480368671:=0
def tw17918045612751741743:=0
def tw2031743805581922333:=0
def tw5363857615428343080:=0
def tw8893357964222313506:=0
def tw1429936942122726060:=0
def tw12682089456562352027:=0
def tw15663116907853995027:=0
def tw12182747536808963001:=0
def tw10395926850486587299:=0
def tw4094864056871926696:=0
def tw6631944965712921020:=0
def tw4131576498732502835:=0
def tw13456885354273100616:=0
def tw8880018354632260431:=0
def tw10208205971547765058:=0
def tw1167657737164052895:=0
def tw9854016365547524748:=0
def tw393313261949430582:=0
def tw2132284157112823350:=0
def tw18294282084332001938:=0
def tw948019614803934385:=0
def tw8130657897821933316:=0
def tw4191807020068652943:=0
def tw17400455530094403502:=0
def tw9403385702746582925:=0
def tw8296488343861365814:=0
def tw16491580465366910601:=0
def tw13831116282497281997:=0
def tw18097773761758862025:=0
def tw5108898445656308694:=0
def tw8145875409266289268:=0
def tw563541167037464394:=0
def tw4120487905606035169:=0
def tw15170643273744326984:=0
def tw3047567764835425575:=0
def tw13761599625856037983:=0
def tw10897570158313490287:=0
def tw8626643443373042823:=0
def tw10340807587950418636:=0
def tw5162835655455130678:=0
def tw9633633807732838189:=0
def tw11359777847531512327:=0
def tw4305153509357349449:=0
def tw975792638658847615:=0
def tw7381077360425784020:=0
def tw4022458623889882559:=0
def tw16349872254942908849:=0
def tw1402359629502250649:=0
def tw6611404728455079272:=0
def tw16425621052419480961:=0
def tw14365703772183699859:=0
def tw12385621029247249573:=0
def tw5732209550406068121:=0
def tw1940002165716753736:=0
def tw8438466501359182658:=0
def tw11759603615474981146:=0
def tw12793355782445017358:=0
def tw3494669088734511227:=0
def tw17591827955460756404:=0
def tw8105144280651729210:=0
def tw18025414618291528729:=0
def tw641129571362634890:=0
def tw5132574525979538856:=0
def tw10733628372065299590:=0
def tw17100330619271813571:=0
def tw1407015471122563792:=0
def tw14023793890670572538:=0
def tw13854458312880037671:=0
def tw17232225185597359657:=0
def tw10992670159427055661:=0
def tw8920585465074928489:=0
def tw14180953388748070168:=0
def tw14793447544747980669:=0
def tw7436383177626415124:=0
def tw5362086851609609120:=0
def tw3698936136703572815:=0
def tw9898352634879739434:=0
def tw7366483322185229653:=0
def tw17666732043450084267:=0
def tw3801666359616460766:=0
def tw8715278994557487959:=0
def tw16718135645750394946:=0
def tw4029693527618448766:=0
def tw15132272676012666574:=0
def tw213796265751964626:=0
def tw9796592432808956916:=0
def tw7201709131344597584:=0
def tw15885726483723939413:=0
def tw17302169877072488459:=0
def tw7693172202286262719:=0
def tw10271707223764219702:=0
def tw3130412774608563256:=0
def tw16676763616078128530:=0
def tw7948911995382624730:=0
def tw6584780239255895547:=0
def tw17148774871014603235:=0
def tw5792286296442898855:=0
def tw11747943198690277954:=0
def tw8782600929135716489:=0
def tw16847696359514165631:=0
def tw8916954310571195874:=0
def tw9984922229626626376:=0
def tw13884309498897898976:=0
def tw8190976798998886593:=0
def tw2546340828917260783:=0
def tw17012118402573917402:=0
def tw14873979725175105150:=0
def tw10161980714787997327:=0
def tw7902395080981877383:=0
def tw10554498351083723444:=0
def tw10770639762915288646:=0
def tw3000054399403896237:=0
def tw17386770224330245741:=0
def tw8903902206674542069:=0
def tw3962988414748309803:=0
def tw5249370223793505953:=0
def tw11039860853094881041:=0
def tw14308826305012094876:=0
def tw1441255539966246938:=0
def tw13872932388932219972:=0
def tw13703836328922336337:=0
def tw14288080026740670919:=0
def tw412727369844307606:=0
def tw327881253690302242:=0
def tw17276181044228666916:=0
def tw3663215735062985784:=0
def tw5226126479641364970:=0
def tw14132753780877692728:=0
def tw8247735103114775654:=0
def tw7979416342794596760:=0
def tw5499980459590677564:=0
def tw14784293138957798636:=0
def tw2903376012094700234:=0
def tw751605971490439758:=0
def tw13514129928878196196:=0
def tw2318837606934295837:=0
def tw837973379494445937:=0
def tw9291176023496717886:=0
def tw13563733784055494361:=0
def tw13883736474459292580:=0
def tw1430548038700415556:=0
def tw3230940323007287521:=0
def tw10339256280214540887:=0
def tw16011543443954280893:=0
def tw1860576831467377351:=0
def tw14490018699759729236:=0
def tw16658463804273160284:=0
def tw5147571452430622025:=0
def tw3660376516261885217:=0
def tw13149216169970055839:=0
def tw6566198818200495632:=0
def tw7812338134480828619:=0
def tw1888831302317185113:=0
def tw2640555769147621044:=0
def tw14988193589286160557:=0
def tw2156558497024805898:=0
def tw6613583959796386627:=0
def tw14263836473533422976:=0
def tw13646665614753272411:=0
def tw3488734900305722808:=0
def tw10138580821012999018:=0
def tw1669498200367001501:=0
def tw8166488038924869716:=0
def tw10931740230155185567:=0
def tw9355257999988967667:=0
def tw2621661318989388915:=0
def tw1759031739123874847:=0
def tw2284155233565091989:=0
def tw14919145036071224752:=0
def tw3046254798265792974:=0
def tw1130278889003663040:=0
def tw17730864554451635518:=0
def tw15095461527415929812:=0
def tw8420063182461674568:=0
def tw100755157022988745:=0
def tw14022692139321259850:=0
def tw9397938377133441699:=0
def tw12839820311045264620:=0
def tw7416356401459466483:=0
def tw10069928335680579287:=0
def tw17204585786510749766:=0
def tw14360677726662991131:=0
def tw7655493284548058862:=0
def tw6008621672886191205:=0
def tw11397667636197632601:=0
def tw2847599329639475086:=0
def tw5870078700725566490:=0
def tw18270631225711075718:=0
def tw11384382244597648085:=0
def tw16460777098431687255:=0
def tw7342552572531941811:=0
def tw1923567903705734654:=0
def tw14014507821823436006:=0
def tw14246357253924653069:=0
def tw12806744649917279667:=0
def tw6113470730111020388:=0
def tw17433313906760575534:=0
def tw8344630698334684135:=0
def tw9368352554645797337:=0
def tw14378920476673620922:=0
def tw13470687523224569332:=0
def tw2938948886583312164:=0
def tw12193678928831023286:=0
def tw703279707093881320:=0
def tw1957091988849932699:=0
def tw3041417356026303035:=0
def tw5511767366598401353:=0
def tw1983860375558450761:=0
def tw1381144513039131655:=0
def tw5327810775342260735:=0
def tw14376952467788626410:=0
def tw17858133597182865296:=0
def tw3434702303279241858:=0
def tw18144234898662477954:=0
def tw5004457719607753385:=0
def tw1196822504385761975:=0
def tw16128581344746398430:=0
def tw4455773842989594950:=0
def tw8562306904191821746:=0
def tw16996595940198356631:=0
def tw18031722261922955690:=0
def tw709443500586320990:=0
def tw14945965195778335637:=0
def tw15054558377500888115:=0
def tw13625969849860749823:=0
def tw1825522265453457118:=0
def tw5110572410731564148:=0
def tw1062560695199374905:=0
def tw13761773508570265326:=0
def tw3649394660436461822:=0
def tw5115702134432155315:=0
def tw9434047072028577964:=0
def tw3204116166828173059:=0
def tw8379531168688824167:=0
def tw17068914111400133730:=0
def tw2843901878224037788:=0
def tw11937904486496947414:=0
def tw16906551798866829932:=0
def tw5547289528408974896:=0
def tw14716195066327638221:=0
def tw12966269724443275417:=0
def tw4174019059661071069:=0
def tw6344201955378749382:=0
def tw15003092952777097408:=0
def tw8156568257971069945:=0
def tw1189172178076096119:=0
def tw14982441493828970239:=0
def tw15874669903675799690:=0
def tw1132083934052041440:=0
def tw8718195103099236800:=0
def tw15000184301275160399:=0
def tw3543276062057822385:=0
def tw12381795568123918506:=0
def tw771020109205246766:=0
def tw17047058787543441241:=0
def tw17861024764439026186:=0
def tw16308781193155757757:=0
def tw13646195382319568431:=0
def tw12182574817997592494:=0
def tw8453369925590118769:=0
def tw2637543248593831152:=0
def tw8068692778578673457:=0
def tw13512312868716926611:=0
def tw1953701881368941259:=0
def tw16351870859299320881:=0
def tw2352089541747217048:=0
def tw17678211973774918471:=0
def tw7871068286760264327:=0
def tw13472232055918554622:=0
def tw2610252831961872248:=0
def tw16810679850488977613:=0
def tw1308398814924538354:=0
def tw2967439455734256404:=0
def tw13743869857730985941:=0
def tw15378619106689224543:=0
def tw10639649481777165767:=0
def tw4502860072583465177:=0
def tw12622291988333911969:=0
def tw17902529796690213049:=0
def tw16036919221497888452:=0
def tw15183990069145936304:=0
def tw13729794917270313023:=0
def tw4834038356461319124:=0
def tw17309366701732981954:=0
def tw10288936181956979640:=0
def tw11488690669318738167:=0
def tw11578225417015777497:=0
def tw1520124890789518608:=0
def tw2705689097314761640:=0
def tw15797328279440569536:=0
def tw15937161812145548877:=0
def tw13869559263060123372:=0
def tw7899391297668319315:=0
def tw11802652738885821121:=0
def tw17711718870476718433:=0
def tw452927429647559553:=0
def tw14707194353743335999:=0
def tw17082340593087985933:=0
def tw16275257515530965661:=0
def tw13949127805859879145:=0
def tw9821747453085723213:=0
def tw17452891751981012801:=0
def tw15858571693446874242:=0
def tw10771206494025858371:=0
def tw5424499140394510757:=0
def tw11828348962098511084:=0
def tw14668325856510425956:=0
def tw10404363040240797745:=0
def tw17999245227625065990:=0
def tw12863776140599666764:=0
def tw14433846252630381764:=0
def tw6198489417700614000:=0
def tw7038067342781504825:=0
def tw12886981458362810676:=0
def tw16526386700113658854:=0
def tw5231785198467578130:=0
def tw6605221607767691870:=0
def tw18058465672743851484:=0
def tw9918815648991922807:=0
def tw15613638171674374161:=0
def tw9896613728899107930:=0
def tw12873798696276513159:=0
def tw8826198333671194541:=0
def tw10438173428728526858:=0
def tw6732977754177170346:=0
def tw320172495506185573:=0
def tw15689641809609980434:=0
def tw2041089686765350714:=0
def tw2451385655242562240:=0
def tw4608196166051602686:=0
def tw1796259581253487884:=0
def tw12367196280722683532:=0
def tw13486362718691114899:=0
def tw5221923741037003167:=0
def tw6857537345241345003:=0
def tw16574506235239383044:=0
def tw5127998184269367294:=0
def tw10546988090095433119:=0
def tw13880746283471187388:=0
def tw6597954203857595191:=0
def tw15966723878149864824:=0
def tw13113945056359497463:=0
def tw1519374223045651706:=0
def tw16600165314233583663:=0
def tw14805674474439694482:=0
def tw17369751094917619185:=0
def tw13770732761600577974:=0
def tw9963003819332980787:=0
def tw8848677938849136816:=0
def tw4135570989021666346:=0
def tw12254517649728304808:=0
def tw12610520451763372825:=0
def tw9807027446371227259:=0
def tw10950720783626792023:=0
def tw9990956619510626419:=0
def tw6117154243072021911:=0
def tw11148136557072597947:=0
def tw4088164274336964105:=0
def tw8499292156715010925:=0
def tw16942751669138997171:=0
def tw12539385915494521050:=0
def tw11175701767368010729:=0
def tw3830189447258460342:=0
def tw16791696075017322042:=0
def tw3742519721256552641:=0
def tw1217267159608293222:=0
def tw15803641012789428942:=0
def tw2058645694249701467:=0
def tw4426273542682137078:=0
def tw1110757681803300549:=0
def tw9396507004769289245:=0
def tw3503232078822107297:=0
def tw12451172655490116910:=0
def tw14219093507974286124:=0
def tw9520253888725871757:=0
end PySem.W.Fast
set_option maxRecDepth 100000 in
set_option maxHeartbeats 0 in
theorem PySem.Challenge.cw_ringtrade_k31_orders_and_squares_refused_holds : PySem.Challenge.rw_ringtrade_k31_orders_and_squares_refused.Holds := by
 w_on; o_law; k_head; (case hw=>w_witness2)
 k_fill
 refine DL.Hg (l:=PySem.Challenge.rw_ringtrade_k31_orders_and_squares_refused) (k:=10) (x := "_law_script") (F:=Law.rK) rfl rfl ⟨rfl,by decide,by decide,rfl⟩ (fun w h Y=>PySem.W.kIn_of Y) Law.main ?C
 intro w mg fa h KX G hmg
 have T:Law.Txt (L2.bR KX) mg:=by
  dsimp only [L2.bR]
  refine ⟨?vc,?vd,?ve,?vf,?vg,?vh,?vi,?vj,?vk,?vl,?vm,?vn,?vo⟩
  case vc|vd|ve|vf|vg|vh|vi|vj|vk|vl|vm|vn|vo=>(refine' PySem.W.mg_none_of KX G ?_; k_is)
 obtain ⟨uc,ug,ud,uh,ui,uj,uk,ul,um,ub,un,uo,uq,vp,vq,vr,vs,vt,vu,vv,vw,ur,vx,vy,vz,v0,v1,v2,v3,v4,v5,v6,v7,v8,v9,wa,wb,wc,wd,we,wf,wg,wh,wi,wj,wk,wl,wm,ut,wn,wo,uu,wp,wq,wr,ws,wt,wu⟩:∃ (uc:Addr) (ug:Addr) (ud:Addr) (uh:Addr) (ui:Addr) (uj:Addr) (uk:Addr) (ul:Addr) (um:Addr) (ub:Addr) (un:Addr) (uo:Addr) (uq:List Value) (vp:List Value) (vq:List Value) (vr:List Value) (vs:List Value) (vt:List Value) (vu:List Value) (vv:List Value) (vw:List Value) (ur:List Value) (vx:List Value) (vy:List Value),(∀ base,DL.XCI PySem.Challenge.rw_ringtrade_k31_orders_and_squares_refused.prog w (L2.bR KX) mg base "NoOrder" ub "at")∧(DL.XN (L2.bR KX) "NoOrder" ub)∧(DL.XC (L2.bR KX) mg "NotSquare" ud)∧(DL.XN (L2.bR KX) "NotSquare" ud)∧(mg "NoDeed" = some (.ref ui))∧(DL.IsxOk (L2.bR KX) (.ref ui) Law.oZ)∧(mg "NoFraction" = some (.ref uh))∧(DL.IsxOk (L2.bR KX) (.ref uh) Law.pv)∧(mg "NotSquare" = some (.ref ud))∧(DL.IsxOk (L2.bR KX) (.ref ud) Law.pc)∧(mg "TooMany" = some (.ref ug))∧(DL.IsxOk (L2.bR KX) (.ref ug) Law.oW)∧(mg "NotOwned" = some (.ref um))∧(DL.IsxOk (L2.bR KX) (.ref um) Law.pe)∧(mg "NoOwn" = some (.ref ul))∧(DL.IsxOk (L2.bR KX) (.ref ul) Law.oR)∧(mg "NoRow" = some (.ref uk))∧(DL.IsxOk (L2.bR KX) (.ref uk) Law.oS)∧(mg "NoLine" = some (.ref uj))∧(DL.IsxOk (L2.bR KX) (.ref uj) Law.o6)∧(mg "NoTable" = some (.ref uo))∧(DL.IsxOk (L2.bR KX) (.ref uo) Law.oV)∧(mg "NoText" = some (.ref un))∧(DL.IsxOk (L2.bR KX) (.ref un) Law.o7)∧(mg "NoOrder" = some (.ref ub))∧(DL.IsxOk (L2.bR KX) (.ref ub) Law.oU)∧(DL.IsxOk (L2.bR KX) (.type "ValueError") Law.pj)∧(mg "TradeError" = some (.ref uc))∧(DL.IsxOk (L2.bR KX) (.ref uc) Law.pi)∧(DL.XA (L2.bR KX) uc uq)∧(DL.lH (L2.bR KX) uc Law.uU)∧(DL.XA (L2.bR KX) ub ur)∧(DL.lH (L2.bR KX) ub Law.tK)∧(DL.pG (L2.bR KX) "at" Law.pO):=by
  dsimp only [L2.bR]
  refine' Law.Bp KX G ?wv ?ww ?wx ?wy ?wz ?w0 ?w1 ?w2 ?w3 ?w4 ?w5 ?w6 ?w7 ?w8 ?w9 ?xa ?xb ?xc ?xd ?xe ?xf ?xg ?xh ?xi ?xj ?xk ?xl ?xm ?xn ?xo ?xp ?xq ?xr ?xs ?xt ?xu ?xv ?xw ?xx ?xy ?xz ?x0 ?x1 ?x2 ?x3 ?x4 ?x5 ?x6 ?x7 ?x8 ?x9 ?ya ?yb ?yc ?yd ?ye ?yf ?yg ?yh ?yi ?yj ?yk ?yl ?ym ?yn ?yo ?yp ?yq ?yr ?ys ?yt ?yu ?yv ?yw ?yx ?yy ?yz ?y0 ?y1 ?y2 ?y3 ?y4 ?y5 ?y6 ?y7 ?y8 ?y9 ?za ?zb ?zc ?zd ?ze ?zf ?zg ?zh ?zi ?gg ?gt ?hL ?zj ?zk ?zl ?zm ?zn ?zo ?zp ?zq ?zr ?zs ?zt ?zu ?zv ?zw ?zx ?zy ?zz ?z0 ?z1 ?z2 ?z3 ?z4 ?z5 ?z6 ?z7 ?z8 ?z9 ?aa ?ab ?ac ?ad ?ae ?af ?ag ?ah ?ai ?aj ?ak ?al ?am ?an ?ao ?ap ?aq ?ar ?au ?av ?aw ?ax ?ay ?az ?a0 ?a1 ?a2 ?a3 ?a4 ?a5
  case wv|ww|wx|wy|wz|w0|w1|w2|w3|w4|w5|w6=>k_is
  case w7=>exact rfl
  case w8|w9=>decide +kernel
  case xa|xb|xc=>k_is
  case xd=>kernel_rfl
  case xe=>exact rfl
  case xf|xg=>decide +kernel
  case xh|xi|xj=>k_is
  case xk=>kernel_rfl
  case xl=>exact rfl
  case xm|xn=>decide +kernel
  case xo|xp|xq=>k_is
  case xr=>kernel_rfl
  case xs=>exact rfl
  case xt|xu=>decide +kernel
  case xv|xw|xx=>k_is
  case xy=>kernel_rfl
  case xz=>exact rfl
  case x0|x1=>decide +kernel
  case x2|x3|x4=>k_is
  case x5=>kernel_rfl
  case x6=>exact rfl
  case x7|x8=>decide +kernel
  case x9|ya|yb=>k_is
  case yc=>kernel_rfl
  case yd=>exact rfl
  case ye|yf=>decide +kernel
  case yg|yh|yi=>k_is
  case yj=>kernel_rfl
  case yk=>exact rfl
  case yl|ym=>decide +kernel
  case yn|yo|yp=>k_is
  case yq=>kernel_rfl
  case yr=>exact rfl
  case ys|yt=>decide +kernel
  case yu|yv|yw=>k_is
  case yx=>kernel_rfl
  case yy=>exact rfl
  case yz|y0=>decide +kernel
  case y1|y2|y3=>k_is
  case y4=>kernel_rfl
  case y5=>exact rfl
  case y6|y7=>decide +kernel
  case y8|y9|za=>k_is
  case zb=>kernel_rfl
  case zc=>exact rfl
  case zd|ze=>decide +kernel
  case zf|zg|zh=>k_is
  case zi=>kernel_rfl
  case gg|gt=>k_is
  case hL|zj=>exact rfl
  case zk=>kernel_rfl
  case zl|zm|zn=>k_is
  case zo|zp=>kernel_rfl
  case zq|zr|zs|zt|zu|zv=>k_is
  case zw|zx|zy|zz|z0|z1|z2|z3|z4|z5|z6|z7|z8|z9|aa|ab|ac|ad|ae|af|ag|ah|ai|aj|ak|al|am=>kernel_rfl
  case an|ao|ap|aq|ar|au|av|aw|ax|ay|az|a0|a1=>decide +kernel
  case a2=>exact rfl
  case a3=>kernel_rfl
  case a4|a5=>k_is
 have a6:DL.DefAt (L2.bR KX) mg "_law_cell" Law.zT:=by
  dsimp only [L2.bR]
  refine' DL.d9 KX G ?a ?l ?c ?k
  case a|l|c|k=>k_is
 have a7:DL.DefAt (L2.bR KX) mg "_law_row" Law.yZ:=by
  dsimp only [L2.bR]
  refine' DL.d9 KX G ?a ?l ?c ?k
  case a|l|c|k=>k_is
 have a8:DL.DefAt (L2.bR KX) mg "_law_wishes" Law.qN:=by
  dsimp only [L2.bR]
  refine' DL.d9 KX G ?a ?l ?c ?k
  case a|l|c|k=>k_is
 have a9:DL.DefAt (L2.bR KX) mg "_law_owns" Law.zU:=by
  dsimp only [L2.bR]
  refine' DL.d9 KX G ?a ?l ?c ?k
  case a|l|c|k=>k_is
 have ba:DL.DefAt (L2.bR KX) mg "is_whole" Law.zB:=by
  dsimp only [L2.bR]
  refine' DL.d9 KX G ?a ?l ?c ?k
  case a|l|c|k=>k_is
 have bb:DL.DefAt (L2.bR KX) mg "is_below" Law.zA:=by
  dsimp only [L2.bR]
  refine' DL.d9 KX G ?a ?l ?c ?k
  case a|l|c|k=>k_is
 have bc:DL.DefAt (L2.bR KX) mg "first_wrong" Law.Ag:=by
  dsimp only [L2.bR]
  refine' DL.d9 KX G ?a ?l ?c ?k
  case a|l|c|k=>k_is
 have bd:DL.DefAt (L2.bR KX) mg "are_unlike" Law.Au:=by
  dsimp only [L2.bR]
  refine' DL.d9 KX G ?a ?l ?c ?k
  case a|l|c|k=>k_is
 have be:DL.DefAt (L2.bR KX) mg "has_each_once" Law.AK:=by
  dsimp only [L2.bR]
  refine' DL.d9 KX G ?a ?l ?c ?k
  case a|l|c|k=>k_is
 have bf:DL.DefAtD (L2.bR KX) mg "order_of" Law.zC [Value.none]:=by
  dsimp only [L2.bR]
  refine' DL.j4 KX G ?a ?l ?t ?c ?k
  case a|l|t|c|k=>k_is
 have bg:DL.DefAtD (L2.bR KX) mg "order_of" Law.Aw [Value.none]:=by
  dsimp only [L2.bR]
  refine' DL.j4 KX G ?a ?l ?t ?c ?k
  case a|l|t|c|k=>k_is
 have bh:DL.DefAt (L2.bR KX) mg "best_left" Law.qt:=by
  dsimp only [L2.bR]
  refine' DL.d9 KX G ?a ?l ?c ?k
  case a|l|c|k=>k_is
 have bi:DL.DefAt (L2.bR KX) mg "owner_left" Law.Ax:=by
  dsimp only [L2.bR]
  refine' DL.d9 KX G ?a ?l ?c ?k
  case a|l|c|k=>k_is
 have bj:DL.DefAt (L2.bR KX) mg "hand_pointed_at" Law.AW:=by
  dsimp only [L2.bR]
  refine' DL.d9 KX G ?a ?l ?c ?k
  case a|l|c|k=>k_is
 have bk:DL.DefAt (L2.bR KX) mg "ring_from" Law.zX:=by
  dsimp only [L2.bR]
  refine' DL.d9 KX G ?a ?l ?c ?k
  case a|l|c|k=>k_is
 have bl:DL.DefAt (L2.bR KX) mg "rings_of_round" Law.nv:=by
  dsimp only [L2.bR]
  refine' DL.d9 KX G ?a ?l ?c ?k
  case a|l|c|k=>k_is
 have bm:DL.DefAt (L2.bR KX) mg "got_in" Law.yM:=by
  dsimp only [L2.bR]
  refine' DL.d9 KX G ?a ?l ?c ?k
  case a|l|c|k=>k_is
 have bn:DL.DefAt (L2.bR KX) mg "things_in" Law.zY:=by
  dsimp only [L2.bR]
  refine' DL.d9 KX G ?a ?l ?c ?k
  case a|l|c|k=>k_is
 have bo:DL.DefAtD (L2.bR KX) mg "rounds" Law.nb [Value.none]:=by
  dsimp only [L2.bR]
  refine' DL.j4 KX G ?a ?l ?t ?c ?k
  case a|l|t|c|k=>k_is
 have bp:DL.DefAtD (L2.bR KX) mg "rounds" Law.zE [Value.none]:=by
  dsimp only [L2.bR]
  refine' DL.j4 KX G ?a ?l ?t ?c ?k
  case a|l|t|c|k=>k_is
 have bq:DL.DefAt (L2.bR KX) mg "dealing_of" Law.qo:=by
  dsimp only [L2.bR]
  refine' DL.d9 KX G ?a ?l ?c ?k
  case a|l|c|k=>k_is
 have uv:DL.DefAtD (L2.bR KX) mg "by_rings" Law.tz [Value.none]:=by
  dsimp only [L2.bR]
  refine' DL.j4 KX G ?a ?l ?t ?c ?k
  case a|l|t|c|k=>k_is
 have br:DL.DefAtD (L2.bR KX) mg "by_rings" Law.Av [Value.none]:=by
  dsimp only [L2.bR]
  refine' DL.j4 KX G ?a ?l ?t ?c ?k
  case a|l|t|c|k=>k_is
 have bs:DL.DefAt (L2.bR KX) mg "pairs_of" Law.zD:=by
  dsimp only [L2.bR]
  refine' DL.d9 KX G ?a ?l ?c ?k
  case a|l|c|k=>k_is
 have bt:DL.DefAt (L2.bR KX) mg "ones_behind" Law.Ah:=by
  dsimp only [L2.bR]
  refine' DL.d9 KX G ?a ?l ?c ?k
  case a|l|c|k=>k_is
 have bu:DL.DefAt (L2.bR KX) mg "ring_of_askers" Law.qy:=by
  dsimp only [L2.bR]
  refine' DL.d9 KX G ?a ?l ?c ?k
  case a|l|c|k=>k_is
 have bv:DL.DefAt (L2.bR KX) mg "next_deed" Law.zW:=by
  dsimp only [L2.bR]
  refine' DL.d9 KX G ?a ?l ?c ?k
  case a|l|c|k=>k_is
 have bw:DL.DefAtD (L2.bR KX) mg "asked" Law.kU [Value.none]:=by
  dsimp only [L2.bR]
  refine' DL.j4 KX G ?a ?l ?t ?c ?k
  case a|l|t|c|k=>k_is
 have bx:DL.DefAtD (L2.bR KX) mg "asked" Law.yU [Value.none]:=by
  dsimp only [L2.bR]
  refine' DL.j4 KX G ?a ?l ?t ?c ?k
  case a|l|t|c|k=>k_is
 have uw:DL.DefAtD (L2.bR KX) mg "by_asking" Law.mq [Value.none]:=by
  dsimp only [L2.bR]
  refine' DL.j4 KX G ?a ?l ?t ?c ?k
  case a|l|t|c|k=>k_is
 have bz:DL.DefAtD (L2.bR KX) mg "by_asking" Law.qO [Value.none]:=by
  dsimp only [L2.bR]
  refine' DL.j4 KX G ?a ?l ?t ?c ?k
  case a|l|t|c|k=>k_is
 have b0:DL.DefAt (L2.bR KX) mg "_law_bad" Law.yY:=by
  dsimp only [L2.bR]
  refine' DL.d9 KX G ?a ?l ?c ?k
  case a|l|c|k=>k_is
 have b1:DL.DefAt (L2.bR KX) mg "_law_whole" Law.At:=by
  dsimp only [L2.bR]
  refine' DL.d9 KX G ?a ?l ?c ?k
  case a|l|c|k=>k_is
 have b2:DL.DefAt (L2.bR KX) mg "_law_at" Law.yT:=by
  dsimp only [L2.bR]
  refine' DL.d9 KX G ?a ?l ?c ?k
  case a|l|c|k=>k_is
 have b3:DL.DefAt (L2.bR KX) mg "is_square" Law.zV:=by
  dsimp only [L2.bR]
  refine' DL.d9 KX G ?a ?l ?c ?k
  case a|l|c|k=>k_is
 have b4:DL.DefAt (L2.bR KX) mg "refuse_unless_square" Law.AZ:=by
  dsimp only [L2.bR]
  refine' DL.d9 KX G ?a ?l ?c ?k
  case a|l|c|k=>k_is
 have b5:DL.DefAt (L2.bR KX) mg "eaten" Law.yV:=by
  dsimp only [L2.bR]
  refine' DL.d9 KX G ?a ?l ?c ?k
  case a|l|c|k=>k_is
 have b6:DL.DefAt (L2.bR KX) mg "_law_flags" Law.AI:=by
  dsimp only [L2.bR]
  refine' DL.d9 KX G ?a ?l ?c ?k
  case a|l|c|k=>k_is
 have b7:DL.DefAt (L2.bR KX) mg "_law_square_refused" Law.A6:=by
  dsimp only [L2.bR]
  refine' DL.d9 KX G ?a ?l ?c ?k
  case a|l|c|k=>k_is
 have b8:DL.DefAt (L2.bR KX) mg "_law_refused" Law.AJ:=by
  dsimp only [L2.bR]
  refine' DL.d9 KX G ?a ?l ?c ?k
  case a|l|c|k=>k_is
 have b9:DL.DefAt (L2.bR KX) mg "law" Law.wN:=by
  dsimp only [L2.bR]
  refine' DL.d9 KX G ?a ?l ?c ?k
  case a|l|c|k=>k_is
 refine DL.Hj hmg b9 (fun _ _ _ _ _ _ us hl=>match us,hl with | [_],_=>rfl) fun f fd Fn base=>?_
 have ux:=Law.Li (P:=P0) (w:=w) (base:=base) T a6
 have uy:=Law.K3 (P:=P0) (w:=w) (base:=base) T a7
 have ca:=Law.NS (P:=P0) (w:=w) (base:=base) T a8 ux uy
 have cb:=Law.Lj (P:=P0) (w:=w) (base:=base) T a9
 have cc:=Law.K6 (P:=P0) (w:=w) (base:=base) T ba
 have cd:=Law.K5 (P:=P0) (w:=w) (base:=base) T bb cc
 have uz:=Law.NV (P:=P0) (w:=w) (base:=base) T bc cd
 have ce:=Law.MY (P:=P0) (w:=w) (base:=base) T bd uz
 have u0:=Law.OO (P:=P0) (w:=w) (base:=base) T be ce
 have u1:=Law.K7 (P:=P0) (w:=w) (base:=base) T bf u0
 have u2:=Law.M4 (P:=P0) (w:=w) (base:=base) T bg u0 uz (vz base) v0
 have u3:=Law.Ll (P:=P0) (w:=w) (base:=base) T bh
 have u4:=Law.M5 (P:=P0) (w:=w) (base:=base) T bi
 have cf:=Law.Pc (P:=P0) (w:=w) (base:=base) T bj u4
 have cg:=Law.Lq (P:=P0) (w:=w) (base:=base) T bk
 have ch:=Law.O4 (P:=P0) (w:=w) (base:=base) T bl u3 cf cg
 have ua:=Law.Jb (P:=P0) (w:=w) (base:=base) T bm
 have up:=Law.Lr (P:=P0) (w:=w) (base:=base) T bn
 have u5:=Law.Jc (P:=P0) (w:=w) (base:=base) T bo u1 up ch ua
 have u6:=Law.K9 (P:=P0) (w:=w) (base:=base) T bp u2
 have ue:=Law.M3 (P:=P0) (w:=w) (base:=base) T bq
 have u7:=Law.K4 (P:=P0) (w:=w) (base:=base) T uv u5 ua ue
 have u7':=Law.Ln (P:=P0) (w:=w) (base:=base) T uv u5 ua ue
 have ci:=Law.M0 (P:=P0) (w:=w) (base:=base) T br u6 ua
 have uf:=Law.K8 (P:=P0) (w:=w) (base:=base) T bs
 have cj:=Law.NW (P:=P0) (w:=w) (base:=base) T bt
 have ck:=Law.O3 (P:=P0) (w:=w) (base:=base) T bu cj
 have cl:=Law.Lp (P:=P0) (w:=w) (base:=base) T bv u3 u4 ck
 have u8:=Law.IF (P:=P0) (w:=w) (base:=base) T bw u1 up cl uf ua
 have u9:=Law.JF (P:=P0) (w:=w) (base:=base) T bx u2
 have va:=Law.Lm (P:=P0) (w:=w) (base:=base) T uw u8 uf ua ue
 have va':=Law.MZ (P:=P0) (w:=w) (base:=base) T uw u8 uf ua ue
 have cm:=Law.NU (P:=P0) (w:=w) (base:=base) T bz u9 uf ua ue
 have cn:=Law.K2 (P:=P0) (w:=w) (base:=base) T b0 uy
 have co:=Law.MX (P:=P0) (w:=w) (base:=base) T b1
 have cp:=Law.JE (P:=P0) (w:=w) (base:=base) T b2 co
 have cq:=Law.Lo (P:=P0) (w:=w) (base:=base) T b3 up
 have cr:=Law.PZ (P:=P0) (w:=w) (base:=base) T b4 cq v1 v2
 have cs:=Law.JG (P:=P0) (w:=w) (base:=base) T b5 cr
 have vb:=Law.Og (P:=P0) (w:=w) (base:=base) T b6 v3 v4 v5 v6 v7 v8 v9 wa wb wc wd we wf wg wh wi wj wk wl wm ut wn wo uu wp
 have ct:=Law.PK (P:=P0) (w:=w) (base:=base) T b7 cs vb wq uu wr
 have cu:=Law.Oh (P:=P0) (w:=w) (base:=base) T b8 u6 ci u9 cm vb ws ut wt wu
 exact Law.Hk T Fn ux ca cb va' u7' cn cp cu ct
end
