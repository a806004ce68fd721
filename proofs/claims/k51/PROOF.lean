import PyProof.Rows.All
import Wide.All
import OpenK.AllK
import Wide.FinOn
import Lean
import PyProof.EqAt
import PyProof.EqKinds
import PyProof.TupleCall
import PyProof.Rows.SetFrom
import KE.KSortTup
import PyProof.Draws
import PyProof.EnumMake
import PyProof.ListRange
import PyProof.Rows.EnumRows
import PyProof.SetRoads
import PyProof.Rows.MinMaxN
import PyProof.Rows.MaxTwoN
import PyProof.ZipIter
import KE.KItemsList
import PySem.Challenge.RW_ringtrade_k51_rings_and_lines_built
noncomputable section
open PySem renaming Value->a_,wpAny_bind->b_,Shared->f_,starEach->m_,wpAny_pure->u_,wpAny->C_,Program->E_,model->H_,World->Kz,Around->KM,compareOp->KQ,wpAny_field->K0,sizeLine_eq->K1,wpAny_callSpecial?_slot->K6,IsPair->Lj,wpAny_holding->Ll,wpAny_seqItems->Lp,wpAny_pyIter_tuple->Ls,mainGlobals->Lu,wpAny_call_entry->Lx,assignEach->LB,mem_of_lookup->LH,FuncData->LK,wpAny_setField_rec->LP,wpAny_newObj_type->LV,wpAny_mono->LW,wpAny_passesOwn->Me,wpAny_loadPart'->Mf,foldedSetIterable->Mi,behindInMarks->Ml,attributeBase->Mo,cLine->Mq,sysModules->MA,wpAny_Call_Name_kw->MB,binaryOp->ME,wpAny_truthy_bool->MK,wpAny_pyIter_list->ML,Draws->MM,Scope->MO,NameKind->MP,bootBuiltins->MT,Builtin->MV,tupleKind_room_in1->M8,sliceBounds->Nb,wpAny_pyIter_enum->Nm,IsZip->Nn,Keyword->Nu,wpAny_updateSeq_pair->Nx,assign->NC,pyNext->ND,letOwnedTupleGo->NE,wpAny_updateSeq->NH,codeAny->NN,callType_new->NQ,rawInt->NU,call_meets->NY,wpAny_letOwnedTupleGo_enum->N1,keywordEach->Oc,wpAny_standAt->Oj,wpAny_comprehension_free->Om,wpAny_onRaise->Os,wpAny_attempt->Ot,swapsWith->Ox,PassesOwn->Oy,noFill_tuple_add->OA,wpAny_pyNext_enum_itemD->OC,wpAny_pyIter_zip->OF,holding->OI,concat_meets->OK,IsPart->OL,getItem->OM,wpAny_typeOf->OO,PlainAttrs->OQ,callerA->OS,notedBy->OT,wpAny_rule->OV,wpAny_pyNext_enum_endD->OX,wpAny_execs_nil->O3,builtinLookup_eq_fast->Pa,bindArgs->Pd,wpAny_newTuple->Pf,compEnvC->Pg,field->Ph,wpAny_letGo->Pj,tupleKind->Pn,BindsTo->Po,valueAt->Pp,swapsWithSole->Pt,swappedStores->Pu,seq_tuple_add->Pv,plainId_quiet->Pw,wpAny_assign_Name->PQ,codeAny_mono->PV,wpAny_sequenceKey->PY,slot_list_getitem->PZ,backToKw->P3,relabel->P5,wpAny_isInstance->Qk,updateSeq->Qm,seqIndex_of->Qq,atKey->Qr,codeAny_builtin->Qz,typeLookup_type->QA,wpAny_specialOf->QB,argBest->QF,builtinsNs->QG,wpAny_Name->QH,Result->QJ,bindL->QK,bindC->QL,typeLookup->QM,call->QN,closureFor->QR,CmpOp->Rp,cellsFrom->Rq,Meets->Rs,seqItems?->Rv,spliced->Rw,setItem->Ry,standAt->Rz,typeOf->RC,cellOf->RE,sub_zip->RI
open List renaming getElem?_eq_some_iff->c_,getElem?_eq_getElem->d_,getElem?_set_ne->g_,range->h_,mem_cons_self->j_,mem_cons_of_mem->k_,length_map->l_,size_toArray->n_,getElem?_set_self->p_,mem_map->r_,mem_range->s_,mem_singleton->t_,mem_filter->w_,getElem?_map->x_,mem_cons->z_,getD_eq_getElem?_getD->A_,map_cons->B_,length_append->I_,getElem?_append_left->J_,map_map->Kx,append_nil->KA,find?_cons->KB,mem_append_right->KG,getElem?_eq_none->KH,map_congr_left->KI,map_append->KJ,find?_eq_none->KO,ne_nil_of_mem->KP,length_drop->KR,mem_flatten->KS,mem_append->KU,nodup_cons->KW,mem_filterMap->KY,replicate->K2,length_range->K3,filterMap_cons->K4,length_take->K5,filter_cons->K7,append_assoc->K8,Nodup->K9,getElem?_range->Ld,getElem?_append_right->Lg,mem_of_getElem?->Lh,nodup_append->Lm,length_filter_le->Ln,mem_append_left->Lv,getElem?_replicate->Lw,getElem?_of_mem->Ly,nodup_range->Lz,map_nil->LC,flatten_cons->LG,exists_mem_of_ne_nil->LJ,take_append_drop->LM,all_eq_true->LO,getElem?_take->LQ,zipWith->LR,forIn_cons->LX,map_const'->LY,idxOf_lt_length_of_mem->L4,length_cons->L5,not_mem_nil->L6,getElem?_drop->L9,length_replicate->L_,drop_eq_getElem_cons->Mb,mem_of_find?_eq_some->Mc,all_cons->Mn,length_erase_of_mem->Mp,length_pos_iff->Mr,range'_succ->Mv,lookup_cons->Mw,length_pos_of_mem->MC,find?_some->MF,any_cons->MG,length_singleton->MI,ext_getElem?->MN,range'->MQ,drop_zero->MR,getElem_mem->MW,pairwise_iff_getElem->MY,idxOf_lt_length_iff->M5,length_filterMap_le->M7,getElem_idxOf->M9,reverse_cons->Nh,take_of_length_le->Nl,take_eq_take_iff->No,drop_length->Nq,map_take->Nv,mem_erase_of_ne->Ny,mem_of_mem_drop->Nz,perm_cons_erase->NA,range_eq_range'->NB,length_nil->NF,length_set->NG,length_zipWith->NL,forIn_nil->N5,filter_filter->N6,nodup_iff_pairwise_ne->N7,nodup_nil->N8,getElem?_eq_none_iff->N9,getElem?_zip_eq_some->Oa,ne_nil_of_length_pos->Ob,pairwise_map->Og,any_eq_true->OG,flatten_nil->OH,any_map->OU,filter_eq_nil_iff->O2,of_mem_zip->O4,range_succ->O6,length_zip->O7,nil_append->O8,getElem?_zipWith->O_,perm_append_comm->Pb,erase_cons_tail->Pm,getElem_of_mem->Pq,filter_eq_self->Pr,perm_singleton->Ps,map_drop->Px,zip_cons_cons->PF,pairwise_cons->PK,take_sublist->PX,find?_append->P8,flatMap_cons->P_,ext_getElem->Qg,getElem_map->Qi,zipIdx_cons->Qj,flatMap_def->Qn,length->Qp,zipIdx_nil->Qy,idxOf_cons->QD,map_set->RP,flatten->RQ
open PySem.Heap renaming get?_push_of_some->e_,lt_size->o_,get?_push_size->y_,size_push->Lo,get?_update_other->LD,get?_update_self->LL,SameBut->NM,IsTuple->NP,get?_none_of_le->Pc,IsList->Pk,FunFrames->QQ,ExtBut->RX
open Bool renaming false_ne_true->i_,and_eq_true->Kt,eq_iff_iff->Kv,false_eq_true->L8,not_eq_true'->P7,false_and->QI,or_false->Rl
open Nat renaming le_refl->q_,ne_of_lt->D_,lt_of_lt_of_le->F_,le_trans->KF,ne_of_gt->KL,zero_le->KN,lt_irrefl->K_,mod_eq_of_lt->LA,lt_succ_self->Mt,mod_lt->MS,le_of_lt->Nd,le_of_eq->Nf,lt_trans->Ni,lt_succ_of_lt->Nk,lt_trichotomy->Of,add_mod_right->Oi,lt_of_succ_lt_succ->OY,zero_add->OZ,sub_zero->O0,min_eq_left->O9,lt_of_le_of_lt->PH,add_right_comm->PM,add_zero->P9,succ_le_succ->Qe,le_add_right->Qh,le_succ->Qs,div_add_mod->QC,mod_add_mod->QE,add_comm->RK,mod_self->RM,lt_or_ge->RN
open Option.some renaming inj->G_,injEq->PP
open PySem.F renaming plainAttrs_list->Ks,slot_list_append->La,type_list_append->Lb,plain_extend_loop->LI,slot_list_index->Mx,args_tuple_add_2->M3,slot_list_insert->M4,entry_tuple_add->Na,type_list_index->Nc,slot_tuple_add->Ng,entry_extend_loop->N_,slot_tuple_index->On,slot_list_remove->Oo,slot_dict_update->Op,slot_dict_values->Oq,type_list_insert->Ow,plainAttrs_dict->OE
open PySem.Builtin.SmallTypes renaming nextOf->Ku,ownedTupleIsFree->Kw,ownedTupleHandOut->M0
open PySem.PassesOwn renaming never->Ky
open PyProof.Rows renaming slot_tuple_getitem->KZ,callWith_type1->Lf,IntsAre->MU,envOfC->Np,AllBare->Nt,seqObj->Ol,subscriptTail_builtinR->OP,IsTup->PN,entry_tuple_getitem->P6,args_tuple_getitem->Qb,callWith_builtin1->Qc,get?_update_seq->Qv,boot_isinstance->Qx,tupleItemsOf_->QU,assign_Tuple->Q6,boot_sorted->Rm
open PySem.PyData renaming eqvAll->Lc,canLay0->Li,depth->LF,eqv->Nr,canLayAll0->Oe,depthAll->O5
open PySem.Obj renaming mapSeq->Lq,data_mapFields->PJ
open PySem.Builtin.Str renaming occurrences->LS
open Int renaming toNat_natCast->LU,ofNat_inj->M6,natCast_nonneg->M_,ofNat_lt->RL,le_refl->RY
open Array renaming length_toList->LZ,getElem?_toList->MJ,toArray_toList->Nw,getD_eq_getD_getElem?->NR,perm_iff_toList_perm->NZ,append_assoc->PB,forIn_toList->PL,getElem_mem->P4,getD->QO,toList->Rx,ext'->R1
open PySem.W renaming kas_desc->L0,kas_asc->L1,kas_place->MH,kas_rev->Nj,kas_descPart->NO,kas_sort->N0,kas_count->Qd,kas_tail3->Ru,hideAll->RD
open PySem.Builtin.List renaming listExtendWith->L3,listLengthHint->NS,listSameRef->Ou,listItems->O1,listFitsIndex->QS
open False renaming elim->L7
open PySem.Builtin.Slice renaming slicePlaces->Ma,sliceAdjust->MX,sliceApplied->NW,slicePartIndex->Qt,sliceFields->Q5
open LawfulBEq renaming eq_of_beq->Mg
open Ne renaming symm->Mh
open PySem.Str renaming ofString->Mj
open PySem.Builtin.Tuple renaming tupleExact->Mm,tupleItemsOf->NX,tupleIsExact->N4,tupleCompareSizes->Qa
open Function renaming comp_apply->Ms,comp_def->Oh
open Option renaming getD_none->Mu,getD_some->My,map_some->MD,isSome_map->Od,map_none->Qw,isSome->Ro
open PySem.Shared renaming heap->Mz
open Classical renaming byContradiction->MZ
open PySem.Challenge renaming pw_ringtrade_k51_rings_and_lines_built->NI,rw_ringtrade_k51_rings_and_lines_built->NJ
open PySem.Heap.SameBut renaming update->NK
open PySem.Calls renaming Name_function_global->NT,callWith_builtin->OR,spliced_cons->PC,spliced_nil->PU
open PySem.SeqAt.EqAt renaming int_int->NV,int_str->Py,str_int->Pz,same->Qu
open List.Nodup renaming mem_erase_iff->Ov
open PySem.Builtin.Range renaming rangeSize->Oz
open PySem.Around renaming under->OJ,under_plainId->Pl
open PySem.Draws renaming list->OW
open Std.Legacy.Range renaming forIn_eq_forIn_range'->Pe
open PySem.Flt renaming iter_list_->Pi
open PySem.SeqAt renaming EqAt->PD,shaped->RF
open PySem.Code renaming isFrame->PR,isGuard->RA,frames->RU
open PySem.MeetsSeq renaming EqGives->Qf
open PySem.Heap.IsList renaming push->Ql
open Sum.inl renaming inj->Qo
open PyProof.Rows.SortSt renaming mk'->QP
open PyProof.Rows.IntsAre renaming int_at->QT,nums->RH
open PySem.EqNone renaming eq_none_none->QV,eq_none_bool->QW,eq_bool_none->QX,ne_none_none->Q0,ne_none_bool->Q1,ne_bool_none->Q2,eq_none_int->Q8,eq_none_str->Q9,eq_int_none->Q_,eq_str_none->Rb,ne_none_int->Re,ne_none_str->Rf,ne_int_none->Rh,ne_str_none->Rj
open PySem.EqMixed renaming eq_bool_str->QY,eq_str_bool->QZ,ne_bool_str->Q3,ne_str_bool->Q4,eq_int_str->Ra,eq_str_int->Rc,ne_int_str->Ri,ne_str_int->Rk
open PySem.Value renaming isStrOf->Q7,isInt->RT
open List.Pairwise renaming imp_of_mem->Rn
open PyProof.Rows.IsTup renaming new->Rt
open Nat.succ renaming inj->RJ
open Eq renaming trans->RZ
open PySem.W.WShape renaming has->R0
open PySem.Walks renaming list->R3
set_option Elab.async false
set_option linter.all false
set_option maxRecDepth 100000
set_option maxHeartbeats 4000000
section
namespace L2
open PySem PySem.Spec PyProof.Rows
abbrev au:=Sum Int Str
def lc:au->a_->Bool
|.inl k,v=>RT k v
|.inr x,v=>Q7 x v
def vP(w:Kz):au->Int
|.inl k=>hashInt k
|.inr x=>hashStr w x
theorem keyIs_shape:∀{k:au}{v:a_},lc k v=true->(∃i t,k=Sum.inl i/\v=Value.int i t)\/(∃x t,k=Sum.inr x/\v=Value.str x t)
|.inl i,v,h=>by obtain⟨t,e⟩:=Value.isInt_shape (k:=i) (v:=v) h;exact .inl ⟨i,t,rfl,e⟩
|.inr x,v,h=>by obtain⟨t,e⟩:=Value.isStrOf_shape (x:=x) (v:=v) h;exact .inr ⟨x,t,rfl,e⟩
theorem Ht(i:Int)(t:Tok):lc (.inl i) (.int i t)=true:=by simp[lc,RT]
theorem Hu(x:Str)(t:Tok):lc (.inr x) (.str x t)=true:=by simp[lc,Q7]
theorem CN(a b:Int):decide ((Sum.inl a:au)=Sum.inl b)=(a==b):=by
 by_cases e:a=b
 .subst e;simp
 .have h:¬ (Sum.inl a:au)=Sum.inl b:=fun q=>e (Qo q);rw[decide_eq_false h];exact(beq_eq_false_iff_ne.mpr e).symm
theorem CQ(a b:Str):decide ((Sum.inr a:au)=Sum.inr b)=decide (a=b):=by
 by_cases e:a=b
 .subst e;simp
 .have h:¬ (Sum.inr a:au)=Sum.inr b:=fun q=>e (Sum.inr.inj q);rw[decide_eq_false h,decide_eq_false e]
theorem CO(a:Int)(b:Str):decide ((Sum.inl a:au)=Sum.inr b)=false:=decide_eq_false (fun q=>nomatch q)
theorem CP(a:Str)(b:Int):decide ((Sum.inr a:au)=Sum.inl b)=false:=decide_eq_false (fun q=>nomatch q)
def eu(prog:E_)(w:Kz):PySem.KeyKind prog w au where
 is:=lc
 hash:=vP w
 inj:=fun v a b ha hb=>by
  rcases keyIs_shape ha with⟨i,t,rfl,rfl⟩|⟨x,t,rfl,rfl⟩
  .rcases keyIs_shape hb with⟨j,u,rfl,e⟩|⟨y,u,rfl,e⟩
   .injection e with e1 _;rw[e1]
   .exact nomatch e
  .rcases keyIs_shape hb with⟨j,u,rfl,e⟩|⟨y,u,rfl,e⟩
   .exact nomatch e
   .injection e with e1 _;rw[e1]
 byValue:=fun k v h=>by rcases keyIs_shape h with⟨i,t,rfl,rfl⟩|⟨x,t,rfl,rfl⟩ <;> rfl
 pyHash:=fun hv h=>by
  rcases keyIs_shape hv with⟨i,t,rfl,rfl⟩|⟨x,t,rfl,rfl⟩
  .exact wpAny_pyHash_int h
  .exact wpAny_pyHash_str h
 eqBool:=fun hu hv h=>by
  rcases keyIs_shape hu with⟨i,t,rfl,rfl⟩|⟨x,t,rfl,rfl⟩
  .rcases keyIs_shape hv with⟨j,u,rfl,rfl⟩|⟨y,u,rfl,rfl⟩
   .rw[CN]at h;exact wpAny_eqBool_int h
   .rw[CO]at h;exact Py i t y u _ _ _ _ h
  .rcases keyIs_shape hv with⟨j,u,rfl,rfl⟩|⟨y,u,rfl,rfl⟩
   .rw[CP]at h;exact Pz x t j u _ _ _ _ h
   .rw[CQ]at h;exact wpAny_eqBool_str h
 «strs»:=fun k x t v h=>by
  rcases keyIs_shape h with⟨i,u,rfl,e⟩|⟨y,u,rfl,e⟩
  .exact nomatch e
  .injection e with e1 _
   subst e1;cases v <;> rfl
theorem Jb(prog:E_)(w:Kz)(i:Int)(t:Tok):(eu prog w).is (.inl i) (.int i t)=true:=Ht i t
theorem Jc(prog:E_)(w:Kz)(x:Str)(t:Tok):(eu prog w).is (.inr x) (.str x t)=true:=Hu x t
inductive V where
 |non|bl (b:Bool)|int (i:Int)|str (x:Str)|byt (b:Array UInt8)|flt (b:UInt64)|ref (a:Addr)|ty (n:String)
 deriving DecidableEq
def aq:V->a_->Prop
|.non,u=>u=Value.none
|.bl b,u=>u=Value.bool b
|.int i,u=>∃t,u=Value.int i t
|.str x,u=>∃t,u=Value.str x t
|.byt b,u=>∃t,u=Value.bytes b t
|.flt b,u=>∃t,u=Value.float b t
|.ref a,u=>u=Value.ref a
|.ty n,u=>u=Value.type n
abbrev ak:List V->List a_->Prop:=Paired aq
theorem ak.length{xs:List V}{us:List a_}(r:ak xs us):xs.length=us.length:=Paired.length r
theorem ak.get:∀{xs:List V}{us:List a_}{i:Nat}{x:V},ak xs us->xs[i]? = some x->∃u,us[i]? = some u/\aq x u
|_,_,_,_,.nil,e=>by simp at e
|_,_,0,_,.cons r _,e=>by simp at e;subst e;exact⟨_,rfl,r⟩
|_,_,i+1,x,.cons _ t,e=>by obtain⟨u,h1,h2⟩:=ak.get (i:=i) (x:=x) t (by simpa using e);exact⟨u,by simpa using h1,h2⟩
theorem ak.set{x:V}{u:a_}(r:aq x u):∀{xs:List V}{us:List a_}(i:Nat),ak xs us->ak (xs.set i x) (us.set i u)
|_,_,_,.nil=>.nil
|_,_,0,.cons _ t=>.cons r t
|_,_,i+1,.cons q t=>.cons q (ak.set r i t)
theorem ak.append{xs ys:List V}{us ws:List a_}(h:ak xs us)(h':ak ys ws):ak (xs++ys) (us++ws):=by induction h with
|nil=>exact h'
|cons r _ ih=>exact .cons r ih
theorem ak.take:∀{xs:List V}{us:List a_}(n:Nat),ak xs us->ak (xs.take n) (us.take n)
|_,_,0,_=>.nil
|_,_,_+1,.nil=>.nil
|_,_,n+1,.cons r t=>.cons r (ak.take n t)
theorem ak.drop:∀{xs:List V}{us:List a_}(n:Nat),ak xs us->ak (xs.drop n) (us.drop n)
|_,_,0,r=>r
|_,_,_+1,.nil=>.nil
|_,_,n+1,.cons _ t=>ak.drop n t
theorem ak.none_of:∀{xs:List V}{us:List a_}{i:Nat},ak xs us->xs[i]? = none->us[i]? = none:=fun{xs us i} r e=>by have h1:=r.length;have h2:xs.length<=i:=N9.mp e;exact N9.mpr (by omega)
def cF:Option V->Option a_->Prop
|some v,some u=>aq v u
|none,none=>True
|_,_=>False
def KV{κ:Type}:List (κ×V)->List (κ×a_)->Prop:=Paired fun(p:κ×V)(q:κ×a_)=>p.1=q.1/\aq p.2 q.2
def kV:au->V
|.inl i=>.int i
|.inr x=>.str x
inductive HO where
 |lst (xs:List V)
 |tup (xs:List V)
 |dK (kvs:List (au×V))|dT (kvs:List (List au×V))
 |set (S:Int->Bool) (n:Nat)
 |ins (C dx:Addr) (fs:List (Str×V))
 |own (x:Addr)
 |xd (fs:List (Str×V))
 |met (f x:Addr)
 |rng (lo hi:Int)
 |frz (o:Obj) (u:HO)
 |tbl (ps:Array a_)
 |ext (φ:Heap->Prop)
abbrev Hp:=Addr->Option HO
def upd(H:Hp)(a:Addr)(o:HO):Hp:=fun b=>if b=a then some o else H b
theorem bO{H:Hp}{a:Addr}{o:HO}:upd H a o a=some o:=by unfold upd;rw[if_pos rfl]
theorem bg{H:Hp}{a b:Addr}{o:HO}(h:b≠a):upd H a o b=H b:=by unfold upd;rw[if_neg h]
theorem Cc{H:Hp}{a b:Addr}{o u:HO}(h:H a=some o)(h':H b=some u)(d:o≠u):a≠b:=by intro e;subst e;rw[h]at h';exact d (G_ h')
theorem i3{H:Hp}{a b:Addr}{o:HO}(h:H a=some o)(h':H b=none):a≠b:=by intro e;subst e;rw[h]at h';cases h'
section
variable(P:E_)(w:Kz)
def bx(H:Hp)(h:Heap)(a:Addr):HO->Prop
|.lst xs=>xs.length<=sizeLine/\∃(its:List a_)(n:Nat),ak xs its/\h.get? a=some { cls:=.type "list",data:=.seq its.toArray n }
|.tup xs=>xs.length<=sizeLine/\∃its:List a_,ak xs its/\PN h a its.toArray/\∃o,h.get? a=some o/\o.dict=none
|.dK kvs=>kvs.length<=sizeLine/\(a==MA)=false/\∃vs,KV kvs vs/\h.DictOf (eu P w) a vs
| .dT kvs=>kvs.length<=sizeLine/\(a == MA)=false/\∃xs:List (List au × Addr × a_),
   Paired (fun(p:List au×V)(q:List au×Addr×a_)=>p.1=q.1/\H q.2.1=some (.tup (p.1.map kV))/\aq p.2 q.2.2) kvs xs /\∃o es ep,h.get? a=some o/\o.ExactDict/\o.data=.dict es ep/\es.toList=xs.map (entryOfKey (Pn (eu P w)))/\(xs.map (·.1)).Nodup
|.set S n=>h.SetOf (intKind P w) a S n
| .ins C dx fs=>H dx=some (.own a)/\fs.length<=1000/\dx≠a/\h.get? a=some (W.instObj C dx) /\
   ∃mA,h.Ns1 dx mA/\(∀f,cF (fs.lookup f) (mA f))/\PySem.Within mA (fs.map (·.1))
|.own _=>∃o,h.get? a=some o
|.xd fs=>∃mA,h.Ns1 a mA/\∀f,cF (fs.lookup f) (mA f)
|.rng lo hi=>∃t u v,h.get? a=some { cls:=.type "range",data:=.fields #[.int lo t,.int hi u,.int 1 v] }
|.frz o u=>h.get? a=some o/\bx H h a u
|.tbl ps=>h.get? a=some { cls:=.none,data:=.fields ps }
|.met f x=>h.get? a=some (W.methodObj (.ref f) (.ref x))
|.ext φ=>φ h/\(∃o,h.get? a=some o)/\∀h1 h2:Heap,φ h1->(∀o,h1.get? a=some o->h2.get? a=some o)->φ h2
def cn(H:Hp)(h:Heap):Prop:=∀a o,H a=some o->bx P w H h a o
end
section
variable{P:E_}{w:Kz}{H H':Hp}{h h':Heap}{a:Addr}{o:HO}
theorem bx.lt(x:bx P w H h a o):a<h.objs.size:=by cases o with
|lst xs=>obtain⟨_,_,_,_,e⟩:=x;exact o_ e
|tup xs=>obtain⟨_,_,_,p,_⟩:=x;exact p.lt
|dK kvs=>obtain⟨_,_,_,_,o,_,_,e,_⟩:=x;exact o_ e
|dT kvs=>obtain⟨_,_,_,_,o,_,_,e,_⟩:=x;exact o_ e
|set S n=>obtain⟨o,_,_,_,e,_⟩:=x;exact o_ e
|ins C dx fs=>obtain⟨_,_,_,e,_⟩:=x;exact o_ e
|own y=>obtain⟨_,e⟩:=x;exact o_ e
|xd fs=>obtain⟨_,⟨_,_,_,e,_⟩,_⟩:=x;exact o_ e
|rng lo hi=>obtain⟨_,_,_,e⟩:=x;exact o_ e
|frz ob u=>obtain⟨e,_⟩:=x;exact o_ e
|tbl ps=>exact o_ (show h.get? a=some _ from x)
|met f y=>exact o_ (show h.get? a=some _ from x)
|ext φ=>obtain⟨_,⟨_,e⟩,_⟩:=x;exact o_ e
theorem Paired.mapP{α β:Type}{F G:α->β->Prop}{l₁:List α}{l₂:List β}(h:Paired F l₁ l₂)(f:∀a b,F a b->G a b):Paired G l₁ l₂:=by induction h with
|nil=>exact .nil
|cons r _ ih=>exact .cons (f _ _ r) ih
theorem bx.stay(x:bx P w H h a o)(k:∀b u,(b=a\/H b=some (.own a))->h.get? b=some u->h'.get? b=some u)(ho:∀b,H b=some (.own a)->H' b=some (.own a))(ht:∀b xs,H b=some (.tup xs)->H' b=some (.tup xs)):bx P w H' h' a o:=by induction o with
|lst xs=>obtain⟨z,its,n,r,e⟩:=x;exact⟨z,its,n,r,k _ _ (.inl rfl) e⟩
|tup xs=>obtain⟨z,its,r,⟨ob,e,c⟩,ob2,e2,c2⟩:=x;exact⟨z,its,r,⟨ob,k _ _ (.inl rfl) e,c⟩,ob2,k _ _ (.inl rfl) e2,c2⟩
|dK kvs=>obtain⟨z,y,vs,r,ob,es,ep,e,c⟩:=x;exact⟨z,y,vs,r,ob,es,ep,k _ _ (.inl rfl) e,c⟩
|dT kvs=>obtain⟨z,y,xs,r,ob,es,ep,e,c⟩:=x;exact⟨z,y,xs,Paired.mapP r fun p q z=>⟨z.1,ht _ _ z.2.1,z.2.2⟩,ob,es,ep,k _ _ (.inl rfl) e,c⟩
|set S n=>obtain⟨ob,es,ep,t,e,c⟩:=x;exact⟨ob,es,ep,t,k _ _ (.inl rfl) e,c⟩
|ins C dx fs=>obtain⟨d,z,ne,e,mA,⟨od,es,ep,e2,c⟩,r⟩:=x;exact⟨ho _ d,z,ne,k _ _ (.inl rfl) e,mA,⟨od,es,ep,k _ _ (.inr d) e2,c⟩,r⟩
|own y=>obtain⟨ob,e⟩:=x;exact⟨ob,k _ _ (.inl rfl) e⟩
|xd fs=>obtain⟨mA,⟨od,es,ep,e,c⟩,r⟩:=x;exact⟨mA,⟨od,es,ep,k _ _ (.inl rfl) e,c⟩,r⟩
|rng lo hi=>obtain⟨t,u,v,e⟩:=x;exact⟨t,u,v,k _ _ (.inl rfl) e⟩
|frz ob u ih=>obtain⟨e,q⟩:=x;exact⟨k _ _ (.inl rfl) e,ih q⟩
|tbl ps=>have e:h.get? a=some { cls:=.none,data:=.fields ps }:=x;show h'.get? a=some { cls:=.none,data:=.fields ps };exact k a _ (.inl rfl) e
|met f y=>have e:h.get? a=some (W.methodObj (.ref f) (.ref y)):=x;show h'.get? a=some (W.methodObj (.ref f) (.ref y));exact k a _ (.inl rfl) e
|ext φ=>obtain⟨p,⟨o,e⟩,st⟩:=x;exact⟨st _ _ p fun o q=>k _ _ (.inl rfl) q,⟨o,k _ _ (.inl rfl) e⟩,st⟩
theorem cn.lt(x:cn P w H h)(e:H a=some o):a<h.objs.size:=(x a o e).lt
theorem cn.fresh(x:cn P w H h)(e:h.objs.size<=a):H a=none:=by cases q:H a with
|none=>rfl
|some u=>exact absurd (F_ (x.lt q) e) (K_ _)
theorem cn.kept(x:cn P w H h)(k:∀b u,h.get? b=some u->h'.get? b=some u):cn P w H h':=fun a o e=>(x a o e).stay (fun b u _ q=>k b u q) (fun _ q=>q) fun _ _ q=>q
theorem cn.laid(x:cn P w H h)(k:∀b u,h.get? b=some u->h'.get? b=some u)(hp:h.objs.size<=a)(new:bx P w (upd H a o) h' a o):cn P w (upd H a o) h':=fun b u e=>by
 have hn:=x.fresh hp;by_cases hb:b=a
 .subst hb;rw[bO]at e;cases e;exact new
 .rw[bg hb]at e;exact(x b u e).stay (fun c v _ q=>k c v q) (fun c q=>by rw[bg (i3 q hn)];exact q) fun c xs q=>by rw[bg (i3 q hn)];exact q
end
def Rd(H:Hp)(a:Addr)(u:HO):Prop:=H a=some u\/∃o,H a=some (.frz o u)
theorem Rd.of{H:Hp}{a:Addr}{u:HO}(h:H a=some u):Rd H a u:=.inl h
theorem Rd.ok{P:E_}{w:Kz}{H:Hp}{h:Heap}{a:Addr}{u:HO}(r:Rd H a u)(x:cn P w H h):bx P w H h a u:=by
 rcases r with r|⟨o,r⟩
 .exact x a u r
 .obtain⟨_,q⟩:=x a _ r;exact q
def nP:Option HO->Prop
|some (.lst _)=>True
|some (.dK _)=>True
|some (.dT _)=>True
|some (.set _ _)=>True
|some (.ins _ _ _)=>True
|some (.ext _)=>True
|_=>False
section
variable{P:E_}{w:Kz}{H:Hp}{h h':Heap}{x e:Addr}{o':HO}
theorem cn.write(ok:cn P w H h)(mu:nP (H x))(he:e=x\/H e=some (.own x))(k:∀b u,b≠e->h.get? b=some u->h'.get? b=some u)(heo:∃u,h'.get? e=some u)(new:bx P w (upd H x o') h' x o'):cn P w (upd H x o') h':=fun b u q=>by
 have nown:∀c y,H c=some (.own y)->c≠x:=fun c y r z=>by subst z;rw[r]at mu;exact mu
 have ntup:∀c xs,H c=some (.tup xs)->c≠x:=fun c xs r z=>by subst z;rw[r]at mu;exact mu
 by_cases hb:b=x
 .subst hb;rw[bO]at q;cases q;exact new
 .rw[bg hb]at q;by_cases hbe:b=e
  .have q':H b=some (.own x):=by
    rcases he with z|z
    .exact absurd (hbe.trans z) hb
    .rw[hbe];exact z
   rw[q]at q';cases q';obtain⟨v,hv⟩:=heo;exact⟨v,by rw[hbe];exact hv⟩
  .refine(ok b u q).stay (fun c v hc r=>k c v ?_ r) (fun c r=>by rw[bg (nown c b r)];exact r) fun c xs r=>by rw[bg (ntup c xs r)];exact r
   rcases hc with rfl|hc
   .exact hbe
   .rintro rfl
    rcases he with z|z
    .exact nown c b hc z
    .rw[hc]at z;cases z;exact hb rfl
end
structure Un(fs ex:List Addr)(H H':Hp)(h h':Heap):Prop where
 keep:∀b o,h.get? b=some o->H b=none->b∉fs->b∉ex->h'.get? b=some o
 slot:∀b o,h.get? b=some o->H b=none->b∈fs->b∉ex->∃sl,h'.get? b=some { o with slots:=sl }
 free:∀b o,h.get? b=some o->H b=none->b∉ex->H' b=none
 there:∀b o,h.get? b=some o->b∉ex->∃o',h'.get? b=some o'
 tups:∀b xs,H b=some (.tup xs)->H' b=some (.tup xs)
 frzs:∀b o u,H b=some (.frz o u)->H' b=some (.frz o u)
 tbls:∀b ps,H b=some (.tbl ps)->∃more,H' b=some (.tbl (ps++more))
section
variable{fs fs' ex ex':List Addr}{H H1 H2:Hp}{h h1 h2 h':Heap}{a x e:Addr}{o:HO}
theorem Un.any(u:Un fs ex H H1 h h1){b:Addr}{ob:Obj}(q:h.get? b=some ob)(n:H b=none)(hx:b∉ex):∃sl,h1.get? b=some { ob with slots:=sl }:=by
 by_cases hb:b∈fs
 .exact u.slot b ob q n hb hx
 .exact⟨ob.slots,u.keep b ob q n hb hx⟩
theorem Un.trans(a:Un fs ex H H1 h h1)(b:Un fs ex H1 H2 h1 h2):Un fs ex H H2 h h2 where
 keep:=fun c ob q n hc hx=>b.keep c ob (a.keep c ob q n hc hx) (a.free c ob q n hx) hc hx
 slot:=fun c ob q n hc hx=>by obtain⟨sl,e1⟩:=a.slot c ob q n hc hx;obtain⟨sl',e2⟩:=b.slot c _ e1 (a.free c ob q n hx) hc hx;exact⟨sl',e2⟩
 free:=fun c ob q n hx=>by obtain⟨o',e1⟩:=a.there c ob q hx;exact b.free c o' e1 (a.free c ob q n hx) hx
 there:=fun c ob q hx=>by obtain⟨o',e1⟩:=a.there c ob q hx;exact b.there c o' e1 hx
 tups:=fun c xs q=>b.tups c xs (a.tups c xs q)
 frzs:=fun c ob xs q=>b.frzs c ob xs (a.frzs c ob xs q)
 tbls:=fun c ps q=>by obtain⟨m1,e1⟩:=a.tbls c ps q;obtain⟨m2,e2⟩:=b.tbls c _ e1;exact⟨m1++m2,by rw[e2,PB]⟩
theorem Un.kept(k:∀b u,h.get? b=some u->h'.get? b=some u):Un fs ex H H h h':=⟨fun b ob q _ _ _=>k b ob q,fun b ob q _ _ _=>⟨ob.slots,k b ob q⟩,fun _ _ _ n _=>n,fun b ob q _=>⟨ob,k b ob q⟩,fun _ _ q=>q,fun _ _ _ q=>q,fun _ ps q=>⟨#[],by rw[q];simp⟩⟩
theorem Un.refl:Un fs ex H H h h:=Un.kept fun _ _ q=>q
theorem Un.laid(k:∀b u,h.get? b=some u->h'.get? b=some u)(hp:h.objs.size<=a)(hn:H a=none):Un fs ex H (upd H a o) h h' where
 keep:=fun b u q _ _ _=>k b u q
 slot:=fun b u q _ _ _=>⟨u.slots,k b u q⟩
 free:=fun b u q n _=>by rw[bg (D_ (F_ (o_ q) hp))];exact n
 there:=fun b u q _=>⟨u,k b u q⟩
 tups:=fun b xs q=>by rw[bg (i3 q hn)];exact q
 frzs:=fun b u xs q=>by rw[bg (i3 q hn)];exact q
 tbls:=fun b ps q=>⟨#[],by rw[bg (i3 q hn),q];simp⟩
theorem Un.write(mu:nP (H x))(he:e=x\/H e=some (.own x))(k:∀b u,b≠e->h.get? b=some u->h'.get? b=some u)(heo:∃u,h'.get? e=some u):Un fs ex H (upd H x o) h h':=by
 have hx:∀b,H b=none->b≠x:=fun b n z=>by subst z;rw[n]at mu;exact mu
 have hb:∀b,H b=none->b≠e:=fun b n z=>by
  subst z;rcases he with r|r
  .exact hx b n r
  .rw[n]at r;cases r
 have hm:∀b u,H b=some u->¬ nP (some u)->b≠x:=fun b u q nm z=>by subst z;rw[q]at mu;exact nm mu
 refine⟨fun b u q n _ _=>k b u (hb b n) q,fun b u q n _ _=>⟨u.slots,k b u (hb b n) q⟩,fun b u q n _=>by rw[bg (hx b n)];exact n,fun b u q _=>?_,fun b xs q=>by rw[bg (hm b _ q fun z=>z)];exact q,fun b u xs q=>by rw[bg (hm b _ q fun z=>z)];exact q,fun b ps q=>⟨#[],by rw[bg (hm b _ q fun z=>z),q];simp⟩⟩;by_cases hbe:b=e
 .subst hbe;exact heo
 .exact⟨u,k b u hbe q⟩
theorem Un.mono(u:Un fs ex H H1 h h1)(hs:∀b∈fs,b∈fs')(hx:∀b∈ex,b∈ex'):Un fs' ex' H H1 h h1:=⟨fun b ob q n hb he=>u.keep b ob q n (fun z=>hb (hs b z)) fun z=>he (hx b z),fun _ _ q n _ he=>u.any q n fun z=>he (hx _ z),fun b ob q n he=>u.free b ob q n fun z=>he (hx b z),fun b ob q he=>u.there b ob q fun z=>he (hx b z),u.tups,u.frzs,u.tbls⟩
end
def trk(h:Heap)(H:Hp):List Addr:=(h_ h.objs.size).filter fun a=>(H a).isSome
def dQ(h:Heap)(H:Hp):Heap:=W.hideAll h (trk h H)
theorem HL(h:Heap)(H:Hp):(dQ h H).objs.size=h.objs.size:=W.hideAll_size _ _
theorem Gg{h:Heap}{H:Hp}{b:Addr}{o:Obj}(e:h.get? b=some o)(n:H b=none):(dQ h H).get? b=some o:=W.hideAll_get _ e fun hm=>by have q:(H b).isSome=true:=(w_.mp hm).2;rw[n]at q;simp at q
theorem Ex{h:Heap}{H:Hp}{b:Addr}{o:Obj}(e:(dQ h H).get? b=some o):h.get? b=some o/\H b=none:=by have e':h.get? b=some o:=W.of_hideAll (trk h H) e;refine⟨e',?_⟩;cases q:H b with
|none=>rfl
|some x=>have hm:b∈trk h H:=w_.mpr ⟨s_.mpr (o_ e'),by simp[q]⟩;have z:(dQ h H).get? b=none:=W.hideAll_none (trk h H) hm;rw[z]at e;cases e
def mR(g h:Heap)(L:Addr):List (Addr×Obj):=(h_ h.objs.size).filterMap fun a=>if a=L\/(g.get? a).isSome=true then none else(h.get? a).map fun o=>(a,o)
theorem Ay{g h:Heap}{L a:Addr}{o:Obj}(h1:a≠L)(h2:g.get? a=none)(h3:h.get? a=some o):(a,o)∈mR g h L:=KY.mpr ⟨a,s_.mpr (o_ h3),by simp[h1,h2,h3]⟩
theorem JV{g h:Heap}{L:Addr}{p:Addr×Obj}(hp:p∈mR g h L):p.1≠L/\g.get? p.1=none/\h.get? p.1=some p.2:=by
 obtain⟨b,_,e⟩:=KY.mp hp;split at e
 .cases e
 .rename_i hn;cases q:h.get? b with
 |none=>rw[q]at e;simp at e
 |some u=>rw[q]at e;simp only[MD,PP]at e;subst e;refine⟨fun z=>hn (.inl z),?_,q⟩;show g.get? b=none;cases r:g.get? b with
  |none=>rfl
  |some v=>exact(hn (.inr (by simp[r]))).elim
def rest(g h:Heap)(L d:Addr):List (Addr×Obj):=(mR g h L).filter fun p=>decide (p.1≠d)
theorem GO{g h:Heap}{L:Addr}:News g L h (mR g h L):=fun p hp=>let⟨a,b,c⟩:=JV hp;⟨c,a,b⟩
structure Mod(K:W.Frag)(mg:Str->Option a_)(base:Heap):Prop where
 kin:K.In base
 glob:base.Ns Lu mg
 blt:∃mb,base.Ns QG mb/\∀x:Str,x≠"__name__"->mb x=MT x
 nolimit:base.NoLimit
structure Cx where
 prog:E_
 w:Kz
 K:W.Frag
 mg:Str->Option a_
 base:Heap
 A:KM
 N:List Str
 s₀:f_
 H₀:Hp
 env:Env
 outer:List Env
 stack:List Env
 ex:List Addr
 fn:Str->Bool
 calm:Bool
 pn:List (Addr×Obj)
 xe:a_->f_->Prop
def di(l:List Env):List Addr:=l.filterMap (·.frame)
abbrev Cx.fs(X:Cx):List Addr:=di X.outer
def gw(sc:MO)(x:Str):Prop:=sc.names.lookup x=some .local\/sc.names.lookup x=some .cell\/sc.names.lookup x=some .free
def im(sc:MO)(x:Str):Prop:=sc.names.lookup x=some .local\/sc.names.lookup x=some .cell
theorem dD{sc:MO}{x:Str}(h:(match sc.names.lookup x with|some .local=>true|some .cell=>true|some .free=>true|_=>false)=true):gw sc x:=by
 revert h;unfold gw;split<;>intro h
 .exact .inl (by assumption)
 .exact .inr (.inl (by assumption))
 .exact .inr (.inr (by assumption))
 .cases h
def wc(env:Env)(h:Heap)(m:Str->Option a_)(x:Str)(u:a_):Prop:=(env.kindOf x=some .local/\m x=some u)\/((env.kindOf x=some .cell\/env.kindOf x=some .free)/\∃c,env.cells.lookup x=some c/\h.IsCell c (some u))
structure Cx.Ok(X:Cx):Prop where
 mod:Mod X.K X.mg X.base
 kind:X.env.scope.kind=.function
 glob:X.env.globals=Lu
 blt:X.env.builtins=QG
 above:X.s₀.heap.objs.size<=X.env.locals
 inj:∀x y c,X.env.cells.lookup x=some c->X.env.cells.lookup y=some c->x=y
 has:∀x,(X.env.kindOf x=some .cell\/X.env.kindOf x=some .free)->∃c,X.env.cells.lookup x=some c
 cab:∀x c,X.fn x=true->X.env.cells.lookup x=some c->X.s₀.heap.objs.size<=c
 hd:X.calm=true->X.A.handled=none
 frames:X.A.frames=some X.stack
 stk:X.stack=X.outer\/(X.stack=X.env::X.outer/\X.env.frame=some X.env.locals)
 exf:∀b∈X.ex,b≠X.env.locals/\∀x c,X.env.cells.lookup x=some c->c≠b
 bs:∀b o,X.base.get? b=some o->X.s₀.heap.get? b=some o/\X.H₀ b=none
 bsz:X.base.objs.size<=X.s₀.heap.objs.size
 noex:∀b o,X.base.get? b=some o->b∉X.ex
 exfs:∀b∈X.ex,b∉X.fs
 funs:X.s₀.heap.FunFrames X.base X.outer
 frf:∀b∈X.fs,X.H₀ b=none
structure Inv(X:Cx)(pz:List (Addr×Obj))(σ:List (Option V))(H:Hp)(s:f_):Prop where
 ok:X.Ok
 os:s.os=X.s₀.os
 bare:Nt s.gens
 base:Un X.fs X.ex X.H₀ H X.s₀.heap s.heap
 loc:∃m,s.heap.Ns X.env.locals m/\∀(i:Nat)(x:Str)(v:V),X.N[i]? = some x->σ[i]? = some (some v)->gw X.env.scope x->∃u,aq v u/\wc X.env s.heap m x u
 cell:∀x c,X.env.cells.lookup x=some c->∃v,s.heap.IsCell c v
 free:H X.env.locals=none
 freeC:∀x c,X.env.cells.lookup x=some c->H c=none
 pin:∀p∈X.pn++pz,s.heap.get? p.1=some p.2/\H p.1=none/\p.1≠X.env.locals/\p.1∉X.fs/\∀v,p.2.data≠.cell v
 hok:cn X.prog X.w H s.heap
 len:σ.length=X.N.length
section
variable{X:Cx}{pz:List (Addr×Obj)}{σ:List (Option V)}{H H':Hp}{s:f_}{h':Heap}
theorem Cx.Ok.nofr(ok:X.Ok){b:Addr}{o:Obj}(e:X.base.get? b=some o):b∉X.fs:=fun hb=>by have:=(ok.funs.mem hb).1;rw[e]at this;cases this
theorem Inv.bs(I:Inv X pz σ H s):∀b o,X.base.get? b=some o->s.heap.get? b=some o/\H b=none:=fun b o e=>⟨I.base.keep b o (I.ok.bs b o e).1 (I.ok.bs b o e).2 (I.ok.nofr e) (I.ok.noex b o e),I.base.free b o (I.ok.bs b o e).1 (I.ok.bs b o e).2 (I.ok.noex b o e)⟩
theorem Inv.bk(I:Inv X pz σ H s):∀b o,X.base.get? b=some o->s.heap.get? b=some o:=fun b o e=>(I.bs b o e).1
theorem Inv.mod(I:Inv X pz σ H s):Mod X.K X.mg X.base:=I.ok.mod
theorem Inv.kIn(I:Inv X pz σ H s):X.K.In s.heap:=I.ok.mod.kin.keeps I.bk
theorem Inv.nolimit(I:Inv X pz σ H s):s.heap.NoLimit:=I.ok.mod.nolimit.keeps I.bk
theorem Inv.fr(I:Inv X pz σ H s):∃m,Fr X.base X.env.locals s.heap m:=let⟨m,hn,_⟩:=I.loc
 ⟨m,hn,I.bk,KF I.ok.bsz I.ok.above⟩
theorem Inv.lt(I:Inv X pz σ H s):X.env.locals<s.heap.objs.size:=let⟨_,hn,_⟩:=I.loc;hn.lt
theorem Inv.sz(I:Inv X pz σ H s):X.s₀.heap.objs.size<=s.heap.objs.size:=KF I.ok.above (Nd I.lt)
theorem Inv.nofs(I:Inv X pz σ H s){a:Addr}(h:s.heap.objs.size<=a):a∉X.fs:=fun hb=>by obtain⟨_,o,ho,_⟩:=I.ok.funs.mem hb;exact absurd (F_ (o_ ho) (KF I.sz h)) (K_ _)
theorem Inv.cne(I:Inv X pz σ H s):∀x c,X.env.cells.lookup x=some c->c≠X.env.locals:=fun x c e z=>by obtain⟨v,o,ho,hd⟩:=I.cell x c e;obtain⟨m,⟨o',es,ep,ho',hd',_⟩,_⟩:=I.loc;rw[z,ho']at ho;cases ho;rw[hd']at hd;cases hd
theorem Inv.funs(I:Inv X pz σ H s):s.heap.FunFrames X.base X.outer:=by
 have all:∀(l:List Env),(∀b∈di l,b∈X.fs)->X.s₀.heap.FunFrames X.base l->s.heap.FunFrames X.base l:=by
  intro l
  induction l with
 |nil=>intro _ _;trivial
 |cons env r ih=>intro hs hl;obtain⟨hk,⟨L,o,hf,hn,ho,hd⟩,hr⟩:=hl;have hL:L∈X.fs:=hs L (by unfold di;rw[K4,hf];exact j_);obtain⟨sl,e⟩:=I.base.slot L o ho (I.ok.frf L hL) hL fun z=>I.ok.exfs L z hL;exact⟨hk,⟨L,_,hf,hn,e,hd⟩,ih (fun b hb=>hs b (by unfold di;rw[K4,hf];exact k_ _ hb)) hr⟩
 exact all X.outer (fun _ hb=>hb) I.ok.funs
theorem Inv.stack(I:Inv X pz σ H s):s.heap.FunFrames X.base X.stack:=by
 rcases I.ok.stk with e|⟨e,hf⟩
 .rw[e];exact I.funs
 .rw[e];obtain⟨m,hn,_⟩:=I.loc;refine .cons (by rw[I.ok.kind];decide) hf hn ?_ I.funs;exact Pc (KF I.ok.bsz I.ok.above)
theorem Inv.stkSub(I:Inv X pz σ H s):∀b∈di X.stack,b∈X.env.locals::X.fs:=fun b hb=>by
 rcases I.ok.stk with e|⟨e,hf⟩
 .rw[e]at hb;exact k_ _ hb
 .rw[e]at hb;unfold di at hb;rw[K4,hf]at hb;exact hb
theorem Inv.stkFree(I:Inv X pz σ H s):∀b∈di X.stack,H b=none:=fun b hb=>by
 rcases z_.mp (I.stkSub b hb)with e|hb
 .rw[e];exact I.free
 .obtain⟨_,o,ho,_⟩:=I.ok.funs.mem hb;exact I.base.free b o ho (I.ok.frf b hb) fun z=>I.ok.exfs b z hb
theorem Inv.step{g':Array GenState}{t':Nat}{d':Drawn}{ch:List Addr}(I:Inv X pz σ H s)(hch:∀b∈ch,(b∈X.ex\/X.s₀.heap.objs.size<=b)/\b≠X.env.locals/\(∀x c,X.env.cells.lookup x=some c->c≠b)/\∀p∈X.pn++pz,p.1≠b)(keep:∀b o,b≠X.env.locals->b∉X.fs->b∉ch->s.heap.get? b=some o->H b=none->h'.get? b=some o)(slot:∀b o,b≠X.env.locals->b∈X.fs->b∉ch->s.heap.get? b=some o->H b=none->∃sl,h'.get? b=some { o with slots:=sl })(free:∀b o,b∉ch->s.heap.get? b=some o->H b=none->H' b=none)(there:∀b o,b∉ch->s.heap.get? b=some o->∃o',h'.get? b=some o')(tups:∀b xs,H b=some (.tup xs)->H' b=some (.tup xs))(frzs:∀b o u,H b=some (.frz o u)->H' b=some (.frz o u))(tbls:∀b ps,H b=some (.tbl ps)->∃more,H' b=some (.tbl (ps++more)))(ns:∀m,s.heap.Ns X.env.locals m->h'.Ns X.env.locals m)(hok:cn X.prog X.w H' h')(hg:Nt g'):Inv X pz σ H' { s with heap:=h',gens:=g',drawn:=d',toks:=t' }:=by
 have neL:∀b o,X.s₀.heap.get? b=some o->b≠X.env.locals:=fun b o e=>D_ (F_ (o_ e) I.ok.above);have neC:∀b o,X.s₀.heap.get? b=some o->b∉X.ex->b∉ch:=fun b o e hx hb=>by
  rcases(hch b hb).1 with z|z
  .exact hx z
  .exact absurd (F_ (o_ e) z) (K_ _)
 have cellK:∀x c,X.env.cells.lookup x=some c->∀v,s.heap.IsCell c v->h'.IsCell c v:=fun x c e v ⟨o,ho,hd⟩=>by
  have nch:c∉ch:=fun z=>(hch c z).2.2.1 x c e rfl;by_cases hc:c∈X.fs
  .obtain⟨sl,q⟩:=slot c o (I.cne x c e) hc nch ho (I.freeC x c e);exact⟨_,q,hd⟩
  .exact⟨o,keep c o (I.cne x c e) hc nch ho (I.freeC x c e),hd⟩
 refine⟨I.ok,I.os,hg,⟨fun b o e n hb hx=>?_,fun b o e n hb hx=>?_,fun b o e n hx=>?_,fun b o e hx=>?_,fun b xs e=>tups b xs (I.base.tups b xs e),fun b o xs e=>frzs b o xs (I.base.frzs b o xs e),fun b ps e=>?_⟩,?_,fun x c e=>?_,?_,fun x c e=>?_,fun p hp=>?_,hok,I.len⟩
 .exact keep b o (neL b o e) hb (neC b o e hx) (I.base.keep b o e n hb hx) (I.base.free b o e n hx)
 .obtain⟨sl,e1⟩:=I.base.slot b o e n hb hx;obtain⟨sl',e2⟩:=slot b _ (neL b o e) hb (neC b o e hx) e1 (I.base.free b o e n hx);exact⟨sl',e2⟩
 .obtain⟨o',e1⟩:=I.base.there b o e hx;exact free b o' (neC b o e hx) e1 (I.base.free b o e n hx)
 .obtain⟨o',e1⟩:=I.base.there b o e hx;exact there b o' (neC b o e hx) e1
 .obtain⟨m1,e1⟩:=I.base.tbls b ps e;obtain⟨m2,e2⟩:=tbls b _ e1;exact⟨m1++m2,by rw[e2,PB]⟩
 .obtain⟨m,hn,hl⟩:=I.loc;refine⟨m,ns m hn,fun i x v e1 e2 e3=>?_⟩;obtain⟨u,r,l⟩:=hl i x v e1 e2 e3;refine⟨u,r,?_⟩;rcases l with l|⟨k,c,e,z⟩
  .exact .inl l
  .exact .inr ⟨k,c,e,cellK x c e _ z⟩
 .obtain⟨v,z⟩:=I.cell x c e;exact⟨v,cellK x c e v z⟩
 .obtain⟨m,⟨o,_,_,ho,_⟩,_⟩:=I.loc;exact free _ o (fun z=>(hch _ z).2.1 rfl) ho I.free
 .obtain⟨v,o,ho,hd⟩:=I.cell x c e;exact free c o (fun z=>(hch c z).2.2.1 x c e rfl) ho (I.freeC x c e)
 .obtain⟨e,n,ne,nf,d⟩:=I.pin p hp;have nch:p.1∉ch:=fun z=>(hch p.1 z).2.2.2 p hp rfl;exact⟨keep p.1 p.2 ne nf nch e n,free p.1 p.2 nch e n,ne,nf,d⟩
theorem Inv.un{t':Nat}(I:Inv X pz σ H s)(u:Un X.fs [] H H' s.heap h')(hok:cn X.prog X.w H' h'):Inv X pz σ H' { s with heap:=h',toks:=t' }:=by obtain⟨m,⟨o,es,ep,ho,r⟩,_⟩:=id I.loc;obtain⟨sl,hL⟩:=u.any ho I.free (by simp);exact I.step (g':=s.gens) (d':=s.drawn) (ch:=[]) (fun _ z=>nomatch z) (fun b o _ hb _ e n=>u.keep b o e n hb (by simp)) (fun b o _ hb _ e n=>u.slot b o e n hb (by simp)) (fun b o _ e n=>u.free b o e n (by simp)) (fun b o _ e=>u.there b o e (by simp)) u.tups u.frzs u.tbls (fun m' hm=>by obtain⟨o',es',ep',ho',r'⟩:=hm;rw[ho]at ho';cases ho';exact⟨_,es',ep',hL,r'⟩) hok I.bare
theorem Inv.call{g':Array GenState}{t':Nat}{d':Drawn}{ch:List Addr}(I:Inv X pz σ H s)(u:Un (di X.stack) ch H H' s.heap h')(hok:cn X.prog X.w H' h')(hg:Nt g')(hch:∀b∈ch,(b∈X.ex\/X.s₀.heap.objs.size<=b)/\b≠X.env.locals/\(∀x c,X.env.cells.lookup x=some c->c≠b)/\∀p∈X.pn++pz,p.1≠b):Inv X pz σ H' { s with heap:=h',gens:=g',drawn:=d',toks:=t' }:=by obtain⟨m,⟨o,es,ep,ho,r⟩,_⟩:=id I.loc;obtain⟨sl,hL⟩:=u.any ho I.free fun z=>(hch _ z).2.1 rfl;exact I.step (ch:=ch) hch (fun b o hL hb hc e n=>u.keep b o e n (fun z=>(z_.mp (I.stkSub b z)).elim hL hb) hc) (fun b o _ _ hc e n=>u.any e n hc) (fun b o hc e n=>u.free b o e n hc) (fun b o hc e=>u.there b o e hc) u.tups u.frzs u.tbls (fun m' hm=>by obtain⟨o',es',ep',ho',r'⟩:=hm;rw[ho]at ho';cases ho';exact⟨_,es',ep',hL,r'⟩) hok hg
theorem Inv.turned{t':Nat}{it:Addr}(I:Inv X pz σ H s)(k:∀b o,b≠it->s.heap.get? b=some o->h'.get? b=some o)(hn:H it=none)(hL:it≠X.env.locals)(h1:it∈X.ex\/X.s₀.heap.objs.size<=it)(h2:∀x c,X.env.cells.lookup x=some c->c≠it)(h3:∀p∈X.pn++pz,p.1≠it):Inv X pz σ H { s with heap:=h',toks:=t' }:=by
 have nit:∀b u,H b=some u->b≠it:=fun b u e z=>by rw[z,hn]at e;cases e
 refine I.step (g':=s.gens) (d':=s.drawn) (ch:=[it]) (fun b hb=>?_) (fun b o _ _ hc e _=>k b o (fun z=>hc (by simp[z])) e) (fun b o _ _ hc e _=>⟨o.slots,k b o (fun z=>hc (by simp[z])) e⟩) (fun _ _ _ _ n=>n)
  (fun b o hc e=>⟨o,k b o (fun z=>hc (by simp[z])) e⟩) (fun _ _ e=>e) (fun _ _ _ e=>e) (fun b ps e=>⟨#[],by rw[e];simp⟩) (fun m hm=>?_) (fun b u e=>?_) I.bare
 .have e:b=it:=by simpa using hb
  subst e;exact⟨h1,hL,h2,h3⟩
 .obtain⟨o,es,ep,ho,r⟩:=hm;exact⟨o,es,ep,k _ o (Mh hL) ho,r⟩
 .refine(I.hok b u e).stay (fun c v hc q=>k c v ?_ q) (fun _ q=>q) fun _ _ q=>q;rcases hc with z|z
  .rw[z];exact nit b u e
  .exact nit c _ z
theorem Inv.tok(I:Inv X pz σ H s)(t:Nat):Inv X pz σ H { s with toks:=t }:=I.un (h':=s.heap) (t':=t) Un.refl I.hok
theorem Inv.kept{t':Nat}(I:Inv X pz σ H s)(k:∀b u,s.heap.get? b=some u->h'.get? b=some u):Inv X pz σ H { s with heap:=h',toks:=t' }:=I.un (Un.kept k) (I.hok.kept k)
theorem Inv.laid{a:Addr}{o:HO}{t':Nat}(I:Inv X pz σ H s)(k:∀b u,s.heap.get? b=some u->h'.get? b=some u)(hp:s.heap.objs.size<=a)(new:bx X.prog X.w (upd H a o) h' a o):Inv X pz σ (upd H a o) { s with heap:=h',toks:=t' }:=I.un (Un.laid k hp (I.hok.fresh hp)) (I.hok.laid k hp new)
theorem Inv.write{x e:Addr}{o:HO}{t':Nat}(I:Inv X pz σ H s)(mu:nP (H x))(he:e=x\/H e=some (.own x))(k:∀b u,b≠e->s.heap.get? b=some u->h'.get? b=some u)(heo:∃u,h'.get? e=some u)(new:bx X.prog X.w (upd H x o) h' x o):Inv X pz σ (upd H x o) { s with heap:=h',toks:=t' }:=I.un (Un.write mu he k heo) (I.hok.write mu he k heo new)
theorem Inv.pins_of{pins':List (Addr×Obj)}(I:Inv X pz σ H s)(h:∀p∈pins',s.heap.get? p.1=some p.2/\H p.1=none/\p.1≠X.env.locals/\p.1∉X.fs/\∀v,p.2.data≠.cell v):Inv X pins' σ H s:=⟨I.ok,I.os,I.bare,I.base,I.loc,I.cell,I.free,I.freeC,fun p hp=>(KU.mp hp).elim (fun z=>I.pin p (Lv _ z)) (h p),I.hok,I.len⟩
theorem yZ{N:List Str}(hN:N.Nodup){i j:Nat}{x:Str}(a:N[i]? = some x)(b:N[j]? = some x):i=j:=by obtain⟨h1,e1⟩:=c_.mp a;obtain⟨h2,e2⟩:=c_.mp b;exact(List.getElem_inj hN).mp (e1.trans e2.symm)
theorem zL{M:Model}{A:KM}{E:a_->f_->Prop}{i:Nat}{x:Str}{v:V}{u:a_}{Q:Unit->f_->Prop}(I:Inv X pz σ H s)(hN:X.N.Nodup)(hi:X.N[i]? = some x)(hx:im X.env.scope x)(r:aq v u)(h:∀s',Inv X pz (σ.set i (some v)) H s'->(∃a,NM a s.heap s'.heap/\(a=X.env.locals\/X.env.cells.lookup x=some a))->Q () s')(hf:X.fn x=true\/X.env.scope.names.lookup x=some .local:=by first|exact .inl rfl|exact .inr rfl|assumption):C_ M A (storeName X.env x u) Q E s:=by
 obtain⟨m,hn,hl⟩:=id I.loc;have hcls:(X.env.scope.kind==.class || (X.env.scope.kind==.module&&X.env.locals != X.env.globals))=false:=by rw[I.ok.kind];rfl
 have hiσ:i<σ.length:=by rw[I.len];exact(c_.mp hi).1
 have cne:=I.cne;have tracked:∀{a:Addr}{h':Heap},(∃o,s.heap.get? a=some o/\H a=none)->NM a s.heap h'->cn X.prog X.w H h':=fun{a h'} ha hs b ob e=>by
  obtain⟨_,_,hfree⟩:=ha;refine(I.hok b ob e).stay (fun c w' hc q=>(hs.2 c ?_).trans q) (fun _ q=>q) fun _ _ q=>q
  rintro rfl
  rcases hc with rfl|hc
  .rw[hfree]at e;cases e
  .rw[hfree]at hc;cases hc
 rcases hx with hk|hk
 .refine wpAny_storeName_local hk hn (fun h' hn' hs=>?_) hcls;obtain⟨oL,_,_,hoL,_⟩:=id hn;refine h _ ⟨I.ok,I.os,I.bare,⟨fun b o e n hb hx=>?_,fun b o e n hb hx=>?_,I.base.free,fun b o e hx=>?_,I.base.tups,I.base.frzs,I.base.tbls⟩,⟨_,hn',fun j y v' e1 e2 e3=>?_⟩,fun y c e=>?_,I.free,I.freeC,fun p hp=>?_,tracked ⟨oL,hoL,I.free⟩ hs,by simpa using I.len⟩ ⟨_,hs,.inl rfl⟩
  .exact(hs.2 b (D_ (F_ (o_ e) I.ok.above))).trans (I.base.keep b o e n hb hx)
  .obtain⟨sl,e1⟩:=I.base.slot b o e n hb hx;exact⟨sl,(hs.2 b (D_ (F_ (o_ e) I.ok.above))).trans e1⟩
  .obtain⟨o',e1⟩:=I.base.there b o e hx;exact⟨o',(hs.2 b (D_ (F_ (o_ e) I.ok.above))).trans e1⟩
  .by_cases hj:j=i
   .subst hj;rw[hi]at e1;cases e1;rw[p_ hiσ]at e2;cases e2;exact⟨u,r,.inl ⟨hk,by simp⟩⟩
   .rw[g_ (Mh hj)]at e2;obtain⟨u',r',q⟩:=hl j y v' e1 e2 e3;refine⟨u',r',?_⟩;rcases q with⟨k,e⟩|⟨k,c,e,z⟩
    .refine .inl ⟨k,?_⟩;have:y≠x:=fun e=>hj (yZ hN e1 (e▸hi));simp[this,e]
    .exact .inr ⟨k,c,e,z.sameBut hs (cne y c e)⟩
  .obtain⟨w',z⟩:=I.cell y c e;exact⟨w',z.sameBut hs (cne y c e)⟩
  .obtain⟨e,n,ne,nf,d⟩:=I.pin p hp;exact⟨(hs.2 p.1 ne).trans e,n,ne,nf,d⟩
 .have hfn:X.fn x=true:=by
   rcases hf with z|z
   .exact z
   .rw[z]at hk;cases hk
  obtain⟨c,hc⟩:=I.ok.has x (.inl hk);obtain⟨w',z⟩:=I.cell x c hc;refine wpAny_storeName_cell I.ok.kind hk hc z (fun h' hc' hs=>?_);obtain⟨oc,hoc,hocd⟩:=id z;refine h { s with heap:=h' } ⟨I.ok,I.os,I.bare,⟨fun b o e n hb hx=>?_,fun b o e n hb hx=>?_,I.base.free,fun b o e hx=>?_,I.base.tups,I.base.frzs,I.base.tbls⟩,⟨m,hn.sameBut hs (Mh (cne x c hc)),fun j y v' e1 e2 e3=>?_⟩,fun y c' e=>?_,I.free,I.freeC,fun p hp=>?_,tracked ⟨oc,hoc,I.freeC x c hc⟩ hs,by simpa using I.len⟩ ⟨c,hs,.inr hc⟩
  .exact(hs.2 b (D_ (F_ (o_ e) (I.ok.cab x c hfn hc)))).trans (I.base.keep b o e n hb hx)
  .obtain⟨sl,e1⟩:=I.base.slot b o e n hb hx;exact⟨sl,(hs.2 b (D_ (F_ (o_ e) (I.ok.cab x c hfn hc)))).trans e1⟩
  .obtain⟨o',e1⟩:=I.base.there b o e hx;exact⟨o',(hs.2 b (D_ (F_ (o_ e) (I.ok.cab x c hfn hc)))).trans e1⟩
  .by_cases hj:j=i
   .subst hj;rw[hi]at e1;cases e1;rw[p_ hiσ]at e2;cases e2;exact⟨u,r,.inr ⟨.inl hk,c,hc,hc'⟩⟩
   .rw[g_ (Mh hj)]at e2;obtain⟨u',r',q⟩:=hl j y v' e1 e2 e3;refine⟨u',r',?_⟩;rcases q with q|⟨k,c',e,z'⟩
    .exact .inl q
    .refine .inr ⟨k,c',e,z'.sameBut hs ?_⟩
     rintro rfl
     exact hj (yZ hN e1 (I.ok.inj _ _ _ e hc▸hi))
  .by_cases hcc:c'=c
   .subst hcc;exact⟨_,hc'⟩
   .obtain⟨w2,z2⟩:=I.cell y c' e;exact⟨w2,z2.sameBut hs hcc⟩
  .obtain⟨e,n,ne,nf,d⟩:=I.pin p hp;refine⟨(hs.2 p.1 ?_).trans e,n,ne,nf,d⟩;intro q;rw[q,hoc]at e;have q':oc=p.2:=G_ e;exact d w' (by rw[<-q'];exact hocd)
theorem zD{M:Model}{A:KM}{E:a_->f_->Prop}{i:Nat}{x:Str}{v:V}{u:a_}{Q:Unit->f_->Prop}(I:Inv X pz σ H s)(hN:X.N.Nodup)(hi:X.N[i]? = some x)(hx:im X.env.scope x)(r:aq v u)(h:∀s',Inv X pz (σ.set i (some v)) H s'->Q () s')(hf:X.fn x=true\/X.env.scope.names.lookup x=some .local:=by first|exact .inl rfl|exact .inr rfl|assumption):C_ M A (storeName X.env x u) Q E s:=zL I hN hi hx r (fun s' I' _=>h s' I') hf
theorem Inv.call'{s':f_}{ch:List Addr}(I:Inv X pz σ H s)(ho:s'.os=s.os)(u:Un (di X.stack) ch H H' s.heap s'.heap)(hok:cn X.prog X.w H' s'.heap)(hg:Nt s'.gens)(hch:∀b∈ch,(b∈X.ex\/X.s₀.heap.objs.size<=b)/\b≠X.env.locals/\(∀x c,X.env.cells.lookup x=some c->c≠b)/\∀p∈X.pn++pz,p.1≠b):Inv X pz σ H' s':=by obtain⟨h',g',d',t',o'⟩:=s';have e:o'=s.os:=ho;subst e;exact I.call (g':=g') (t':=t') (d':=d') u hok hg hch
end
abbrev XK:=a_->Option Addr->Hp->Prop
abbrev St:=List (Option V)
abbrev VK:=V->Hp->Prop
abbrev TE:=St->Hp->VK->Prop
abbrev TT:=St->Hp->(Bool->Hp->Prop)->Prop
abbrev TA:=St->Hp->(List V->Hp->Prop)->Prop
structure Ends where
 nx:St->Hp->Prop
 rt:VK
 bk:St->Hp->Prop:=fun _ _=>False
 ct:St->Hp->Prop:=fun _ _=>False
abbrev TS:=Ends->St->Hp->Prop
def EP(X:Cx)(pz:List (Addr×Obj))(σ:St)(Q:VK)(u:a_)(s':f_):Prop:=∃v H',Inv X pz σ H' s'/\aq v u/\Q v H'
def TP(X:Cx)(pz:List (Addr×Obj))(σ:St)(Q:Bool->Hp->Prop)(b:Bool)(s':f_):Prop:=∃H',Inv X pz σ H' s'/\Q b H'
def AP(X:Cx)(pz:List (Addr×Obj))(σ:St)(Q:List V->Hp->Prop)(us:List a_)(s':f_):Prop:=∃vs H',Inv X pz σ H' s'/\ak vs us/\Q vs H'
def SP(X:Cx)(pz:List (Addr×Obj))(D:Ends)(f:Flow)(s':f_):Prop:=match f with
|.next=>∃σ' H',Inv X pz σ' H' s'/\D.nx σ' H'
|.brk=>∃σ' H',Inv X pz σ' H' s'/\D.bk σ' H'
|.cont=>∃σ' H',Inv X pz σ' H' s'/\D.ct σ' H'
|.ret u=>∃v σ' H',Inv X pz σ' H' s'/\aq v u/\D.rt v H'
def PE(X:Cx)(e:Expr)(t:TE):Prop:=∀(pz:List (Addr×Obj))(s:f_)(σ:St)(H:Hp)(Q:VK),Inv X pz σ H s->t σ H Q->C_ (H_ X.prog X.w) X.A (eval e X.env) (EP X pz σ Q) X.xe s
def PT(X:Cx)(e:Expr)(t:TT):Prop:=∀(pz:List (Addr×Obj))(s:f_)(σ:St)(H:Hp)(Q:Bool->Hp->Prop),Inv X pz σ H s->t σ H Q->C_ (H_ X.prog X.w) X.A (isTrue e X.env (eval e X.env)) (TP X pz σ Q) X.xe s
def PW(X:Cx)(e:Expr)(t:TT):Prop:=∀(whole:Sem a_)(pz:List (Addr×Obj))(s:f_)(σ:St)(H:Hp)(Q:Bool->Hp->Prop),Inv X pz σ H s->t σ H Q->C_ (H_ X.prog X.w) X.A (isTrue e X.env whole) (TP X pz σ Q) X.xe s
theorem PW.pt{X:Cx}{e:Expr}{t:TT}(h:PW X e t):PT X e t:=h _
def PA(X:Cx)(es:List Expr)(t:TA):Prop:=∀(pos:Pos)(pz:List (Addr×Obj))(s:f_)(σ:St)(H:Hp)(Q:List V->Hp->Prop),Inv X pz σ H s->t σ H Q->C_ (H_ X.prog X.w) X.A (Rw (backTo pos (m_ es X.env))) (AP X pz σ Q) X.xe s
def PS(X:Cx)(st:Stmt)(t:TS):Prop:=∀(pz:List (Addr×Obj))(s:f_)(σ:St)(H:Hp)(D:Ends),Inv X pz σ H s->t D σ H->C_ (H_ X.prog X.w) X.A (exec st X.env) (SP X pz D) X.xe s
def dU(X:Cx)(st:List Stmt)(t:TS):Prop:=∀(pz:List (Addr×Obj))(s:f_)(σ:St)(H:Hp)(D:Ends),Inv X pz σ H s->t D σ H->C_ (H_ X.prog X.w) X.A (execs st X.env) (SP X pz D) X.xe s
theorem aH{α:Type}{t:Sem α}{Q Q':α->f_->Prop}{M:Model}{A:KM}{E:a_->f_->Prop}{s:f_}(h:C_ M A t Q E s)(hQ:∀a s,Q a s->Q' a s):C_ M A t Q' E s:=LW h hQ fun _ _ x=>x
section
variable{X:Cx}
def uU(i:Nat):TE:=fun σ H Q=>∃v,σ[i]? = some (some v)/\Q v H
def tC(v:V):TE:=fun _ H Q=>Q v H
theorem j7{i:Nat}{x:Str}{pos:Pos}(hN:X.N[i]? = some x)(hv:gw X.env.scope x)(hd:(x==("__debug__" : Str))=false:=by decide)(hcd:(x==("__classdict__" : Str))=false:=by decide):PE X (.Name x pos) (uU i):=by
 intro pz s σ H Q I h;obtain⟨v,e,h⟩:=h;obtain⟨m,hn,hl⟩:=I.loc;obtain⟨u,r,l⟩:=hl i x v hN e hv;have fin:EP X pz σ Q u s:=⟨v,H,I,r,h⟩
 rcases l with⟨hk,hm⟩|⟨hk,c,hc,hcell⟩
 .exact QH (wpAny_loadName_local I.ok.kind hk hn hm fin) hd
 .rcases hk with hk|hk
  .exact QH (wpAny_loadName_cell I.ok.kind hk hc hcell fin) hd
  .exact QH (wpAny_loadName_free I.ok.kind hk hc hcell fin hcd) hd
theorem Ei{i j pos}:PE X (.Constant (.int i) j pos) (tC (.int i)):=fun _ _ _ H _ I h=>wpAny_Constant_int ⟨.int i,H,I.tok _,⟨_,rfl⟩,h⟩
theorem Ck{b j pos}:PE X (.Constant (.bool b) j pos) (tC (.bl b)):=fun _ _ _ H _ I h=>Constant_bool ⟨.bl b,H,I,rfl,h⟩
theorem Ek{j pos}:PE X (.Constant .none j pos) (tC .non):=fun _ _ _ H _ I h=>Constant_none ⟨.non,H,I,rfl,h⟩
theorem DT{x j pos}:PE X (.Constant (.str x) j pos) (tC (.str x)):=fun _ _ _ H _ I h=>Calls.Constant_str ⟨.str x,H,I.tok _,⟨_,rfl⟩,h⟩
def Gl(X:Cx)(x:Str):Prop:=X.env.kindOf x=some .globalImplicit
theorem En{E:a_->f_->Prop}{pz:List (Addr×Obj)}{s:f_}{σ:St}{H:Hp}{x:Str}{u:a_}{pos:Pos}{Q:a_->f_->Prop}(I:Inv X pz σ H s)(hg:Gl X x)(hm:X.mg x=some u)(h:Q u s)(hd:(x==("__debug__" : Str))=false:=by decide):C_ (H_ X.prog X.w) X.A (eval (.Name x pos) X.env) Q E s:=NT I.ok.kind hg (Calls.loadGlobal_global (by rw[I.ok.glob];exact I.mod.glob.keeps I.bk) hm h) hd
theorem jy{E:a_->f_->Prop}{pz:List (Addr×Obj)}{s:f_}{σ:St}{H:Hp}{x:Str}{u:a_}{pos:Pos}{Q:a_->f_->Prop}(I:Inv X pz σ H s)(hg:Gl X x)(hm:X.mg x=none)(hv:MT x=some u)(h:Q u s)(hn:x≠"__name__" := by decide)(hd:(x==("__debug__" : Str))=false:=by decide):C_ (H_ X.prog X.w) X.A (eval (.Name x pos) X.env) Q E s:=by obtain⟨mb,h1,h2⟩:=I.mod.blt;exact NT I.ok.kind hg (Calls.loadGlobal_builtin (by rw[I.ok.glob];exact I.mod.glob.keeps I.bk) hm (by rw[I.ok.blt];exact h1.keeps I.bk) ((h2 x hn).trans hv) h) hd
theorem FM{x:Str}{v:V}{u:a_}{pos:Pos}(hg:Gl X x)(hm:X.mg x=none)(hv:MT x=some u)(r:aq v u)(hn:x≠"__name__" := by decide)(hd:(x==("__debug__" : Str))=false:=by decide):PE X (.Name x pos) (tC v):=fun _ _ _ H _ I h=>jy I hg hm hv ⟨v,H,I,r,h⟩ hn hd
variable{a b:Expr}{ta tb:TE}{pos:Pos}
def tB(t:TE):TT:=fun σ H Q=>t σ H fun x H1=>∃c,x=.bl c/\Q c H1
variable{tA tB':TT}{rest:List Expr}
def vF(t u:TT):TT:=fun σ H Q=>t σ H fun c H1=>if c=true then u σ H1 Q else Q false H1
def Kb(t u:TT):TT:=fun σ H Q=>t σ H fun c H1=>if c=true then Q true H1 else u σ H1 Q
def uY(t:TT):TT:=fun σ H Q=>t σ H fun c H1=>Q (! c) H1
theorem Fv(ha:PT X a tA):PW X (.BoolOp .And [a] pos) tA:=by intro wh pz s σ H Q I h;refine isTrue_and (aH (ha pz s σ H Q I h) fun c s1 e=>?_);cases c with
|true=>exact isTrue_and_nil e
|false=>exact e
theorem D5(ha:PT X a tA):PW X (.BoolOp .Or [a] pos) tA:=by intro wh pz s σ H Q I h;refine isTrue_or (aH (ha pz s σ H Q I h) fun c s1 e=>?_);cases c with
|false=>exact isTrue_or_nil e
|true=>exact e
theorem D4(ha:PT X a tA)(hb:PW X (.BoolOp .And (b::rest) pos) tB'):PW X (.BoolOp .And (a::b::rest) pos) (vF tA tB'):=by intro wh pz s σ H Q I h;refine isTrue_and (aH (ha pz s σ H _ I h) fun c s1 ⟨H1,I1,q1⟩=>?_);cases c with
|true=>exact hb wh pz s1 σ H1 Q I1 q1
|false=>exact⟨H1,I1,q1⟩
theorem Cq(ha:PT X a tA)(hb:PW X (.BoolOp .Or (b::rest) pos) tB'):PW X (.BoolOp .Or (a::b::rest) pos) (Kb tA tB'):=by intro wh pz s σ H Q I h;refine isTrue_or (aH (ha pz s σ H _ I h) fun c s1 ⟨H1,I1,q1⟩=>?_);cases c with
|true=>exact⟨H1,I1,q1⟩
|false=>exact hb wh pz s1 σ H1 Q I1 q1
theorem D3(ha:PT X a tA):PT X (.UnaryOp .Not a pos) (uY tA):=by intro pz s σ H Q I h;exact isTrue_not (ha pz s σ H (fun c H1=>Q (! c) H1) I h)
def BO(ta tb:TE):TE:=fun σ H Q=>ta σ H fun x H1=>∃c,x=.bl c/\if c=true then tb σ H1 Q else Q (.bl false) H1
def BU(ta:TE):TE:=fun σ H Q=>ta σ H fun x H1=>∃c,x=.bl c/\Q (.bl (! c)) H1
theorem DS{op}{t:TE}(h:PE X a t):PE X (.BoolOp op [a] pos) t:=fun pz s σ H Q I hw=>BoolOp_one (h pz s σ H Q I hw)
theorem Eh(ha:PE X a ta)(hb:PE X (.BoolOp .And (b::rest) pos) tb):PE X (.BoolOp .And (a::b::rest) pos) (BO ta tb):=by intro pz s σ H Q I h;refine BoolOp_and (aH (ha pz s σ H _ I h) fun v s1 ⟨x,H1,I1,r1,q1⟩=>?_);obtain⟨c,rfl,q1⟩:=q1;cases r1;refine MK ?_;cases c with
|true=>exact hb pz s1 σ H1 Q I1 q1
|false=>exact⟨.bl false,H1,I1,rfl,q1⟩
theorem DR(ha:PE X a ta):PE X (.UnaryOp .Not a pos) (BU ta):=by intro pz s σ H Q I h;refine UnaryOp_ (aH (ha pz s σ H _ I h) fun v s1 ⟨x,H1,I1,r1,q1⟩=>?_);obtain⟨c,rfl,q1⟩:=q1;cases r1;exact not_of (MK ⟨.bl (! c),H1,I1,rfl,q1⟩)
def Kd(t:TT)(ta tb:TE):TE:=fun σ H Q=>t σ H fun c H1=>if c=true then ta σ H1 Q else tb σ H1 Q
theorem GW{c:Expr}(hc:PT X c tA)(ha:PE X a ta)(hb:PE X b tb):PE X (.IfExp c a b pos) (Kd tA ta tb):=by intro pz s σ H Q I h;refine wpAny_IfExp (aH (hc pz s σ H _ I h) fun d s1 ⟨H1,I1,q1⟩=>?_);cases d with
|true=>exact ha pz s1 σ H1 Q I1 q1
|false=>exact hb pz s1 σ H1 Q I1 q1
end
def aO(K:W.Frag)(H:Hp)(a:Addr)(xs:List V):Prop:=Rd H a (.lst xs) \/∃(o:Obj)(its:Array a_)(n:Nat),K.lookup a=some o/\o.cls=.type "list"/\o.dict=none/\o.data=.seq its n/\its.size<=sizeLine/\ak xs its.toList
def bF(K:W.Frag)(H:Hp)(a:Addr)(xs:List V):Prop:=Rd H a (.tup xs) \/∃(o:Obj)(its:Array a_)(n:Nat),K.lookup a=some o/\o.cls=.type "tuple"/\o.data=.seq its n/\its.size<=sizeLine/\ak xs its.toList
def vV:a_->Option V
|.none=>some .non
|.bool b=>some (.bl b)
|.int i _=>some (.int i)
|.str x _=>some (.str x)
|.bytes b _=>some (.byt b)
|.float b _=>some (.flt b)
|.ref a=>some (.ref a)
|.type n=>some (.ty n)
|_=>none
theorem aq.abs{x:V}{u:a_}(r:aq x u):vV u=some x:=by cases x with
|non=>cases r;rfl
|bl _=>cases r;rfl
|int _=>obtain⟨t,rfl⟩:=r;rfl
|str _=>obtain⟨t,rfl⟩:=r;rfl
|byt _=>obtain⟨t,rfl⟩:=r;rfl
|flt _=>obtain⟨t,rfl⟩:=r;rfl
|ref _=>cases r;rfl
|ty _=>cases r;rfl
theorem aq.inj{x y:V}{u:a_}(r:aq x u)(q:aq y u):x=y:=G_ (r.abs.symm.trans q.abs)
theorem ak.inj{xs ys:List V}{us:List a_}(h:ak xs us)(h':ak ys us):xs=ys:=by induction h generalizing ys with
|nil=>cases h';rfl
|cons r t ih=>cases h' with
 |cons r' t'=>rw[r.inj r',ih t']
section
variable{X:Cx}{pz:List (Addr×Obj)}{σ:St}{H:Hp}{s:f_}{a:Addr}{xs ys:List V}
theorem aO.of{K:W.Frag}(h:H a=some (.lst xs)):aO K H a xs:=.inl (.inl h)
theorem bF.of{K:W.Frag}(h:H a=some (.tup xs)):bF K H a xs:=.inl (.inl h)
theorem Inv.list(I:Inv X pz σ H s)(h:aO X.K H a xs):∃its:List a_,ak xs its/\PlainL s.heap a its.toArray/\xs.length<=sizeLine:=by
 rcases h with h|⟨o,its,n,hk,hc,hd,hs,hz,r⟩
 .obtain⟨z,its,n,r,e⟩:=h.ok I.hok;exact⟨its,r,⟨_,n,e,rfl,rfl,rfl⟩,z⟩
 .refine⟨its.toList,r,⟨o,n,I.kIn a o hk,hc,hd,by simpa using hs⟩,?_⟩;have e:=r.length;simp only[LZ]at e;omega
theorem Inv.tuple(I:Inv X pz σ H s)(h:bF X.K H a xs):∃its:List a_,ak xs its/\PN s.heap a its.toArray/\xs.length<=sizeLine:=by
 rcases h with h|⟨o,its,n,hk,hc,hs,hz,r⟩
 .obtain⟨z,its,r,p,_⟩:=h.ok I.hok;exact⟨its,r,p,z⟩
 .refine⟨its.toList,r,⟨o,I.kIn a o hk,hc,n,by simpa using hs⟩,?_⟩;have e:=r.length;simp only[LZ]at e;omega
theorem Inv.list_inj(I:Inv X pz σ H s)(h:aO X.K H a xs)(h':aO X.K H a ys):xs=ys:=by
 obtain⟨its,r,⟨o,n,e,_,_,d⟩,_⟩:=I.list h;obtain⟨its',r',⟨o',n',e',_,_,d'⟩,_⟩:=I.list h';rw[e]at e';cases e';rw[d]at d';injection d' with d1 _
 have:its=its':=by simpa using congrArg Rx d1
 subst this;exact r.inj r'
theorem Inv.tuple_inj(I:Inv X pz σ H s)(h:bF X.K H a xs)(h':bF X.K H a ys):xs=ys:=by
 obtain⟨its,r,⟨o,e,_,n,d⟩,_⟩:=I.tuple h;obtain⟨its',r',⟨o',e',_,n',d'⟩,_⟩:=I.tuple h';rw[e]at e';cases e';rw[d]at d';injection d' with d1 _
 have:its=its':=by simpa using congrArg Rx d1
 subst this;exact r.inj r'
end
abbrev Cx.wish(X:Cx)(E:a_->f_->Prop):Cx:={ X with xe:=E }
abbrev Cx.nox(X:Cx):Cx:=X.wish fun _ _=>False
theorem Cx.Ok.wish{X:Cx}(ok:X.Ok)(E:a_->f_->Prop):(X.wish E).Ok:=⟨ok.mod,ok.kind,ok.glob,ok.blt,ok.above,ok.inj,ok.has,ok.cab,ok.hd,ok.frames,ok.stk,ok.exf,ok.bs,ok.bsz,ok.noex,ok.exfs,ok.funs,ok.frf⟩
theorem Cx.Ok.unwish{X:Cx}{E:a_->f_->Prop}(ok:(X.wish E).Ok):X.Ok:=⟨ok.mod,ok.kind,ok.glob,ok.blt,ok.above,ok.inj,ok.has,ok.cab,ok.hd,ok.frames,ok.stk,ok.exf,ok.bs,ok.bsz,ok.noex,ok.exfs,ok.funs,ok.frf⟩
section
variable{X:Cx}{pz:List (Addr×Obj)}{σ:St}{H:Hp}{s:f_}{E:a_->f_->Prop}
theorem Inv.wish(I:Inv X pz σ H s)(E:a_->f_->Prop):Inv (X.wish E) pz σ H s:=⟨I.ok.wish E,I.os,I.bare,I.base,I.loc,I.cell,I.free,I.freeC,I.pin,I.hok,I.len⟩
theorem Inv.unwish(I:Inv (X.wish E) pz σ H s):Inv X pz σ H s:=⟨I.ok.unwish,I.os,I.bare,I.base,I.loc,I.cell,I.free,I.freeC,I.pin,I.hok,I.len⟩
theorem SP.unwish{D:Ends}{f:Flow}{s':f_}(h:SP (X.wish E) pz D f s'):SP X pz D f s':=by cases f with
|next=>obtain⟨σ',H',I,q⟩:=h;exact⟨σ',H',I.unwish,q⟩
|brk=>obtain⟨σ',H',I,q⟩:=h;exact⟨σ',H',I.unwish,q⟩
|cont=>obtain⟨σ',H',I,q⟩:=h;exact⟨σ',H',I.unwish,q⟩
|ret u=>obtain⟨v,σ',H',I,r,q⟩:=h;exact⟨v,σ',H',I.unwish,r,q⟩
theorem PE.nox{e:Expr}{t:TE}(h:PE X.nox e t):PE X e t:=fun pz s σ H Q I hw=>LW (h pz s σ H Q (I.wish _) hw) (fun _ _ ⟨v,H',I',r,q⟩=>⟨v,H',I'.unwish,r,q⟩) fun _ _ z=>L7 z
theorem PT.nox{e:Expr}{t:TT}(h:PT X.nox e t):PT X e t:=fun pz s σ H Q I hw=>LW (h pz s σ H Q (I.wish _) hw) (fun _ _ ⟨H',I',q⟩=>⟨H',I'.unwish,q⟩) fun _ _ z=>L7 z
theorem dU.nox{st:List Stmt}{t:TS}(h:dU X.nox st t):dU X st t:=fun pz s σ H D I hw=>LW (h pz s σ H D (I.wish _) hw) (fun _ _ q=>q.unwish) fun _ _ z=>L7 z
end
section
variable{X:Cx}{st:Stmt}{rest:List Stmt}{t u:TS}{e:Expr}{te:TE}{pos:Pos}
def BS:TS:=fun D σ H=>D.nx σ H
def uW(t u:TS):TS:=fun D σ H=>t { D with nx:=u D } σ H
theorem Fs:dU X [] BS:=fun _ _ σ H _ I h=>O3 ⟨σ,H,I,h⟩
theorem G9(h1:PS X st t)(h2:dU X rest u):dU X (st::rest) (uW t u):=by intro pz s σ H D I h;refine wpAny_execs_cons (aH (h1 pz s σ H { D with nx:=u D } I h) fun f s1 q=>?_);cases f with
|next=>obtain⟨σ',H',I',q⟩:=q;exact h2 pz s1 σ' H' D I' q
|ret v=>exact q
|brk=>exact q
|cont=>exact q
theorem Inv.quiet{pz:List (Addr×Obj)}{σ:St}{H:Hp}{s:f_}(I:Inv X pz σ H s):interactive X.env=false:=by simp[interactive,I.ok.kind]
def BR(te:TE):TS:=fun D σ H=>te σ H fun _ H1=>D.nx σ H1
theorem yJ(he:PE X e te)(hs:Ox e none pos.line X.env=pure false:=by rfl):PS X (.Expr e pos) (BR te):=by intro pz s σ H D I h;exact wpAny_Expr_any (aH (he pz s σ H _ I h) fun v s1 ⟨x,H1,I1,r1,q1⟩=>⟨σ,H1,I1,q1⟩) I.quiet hs
def uX(te:TE):TS:=fun D σ H=>te σ H D.rt
theorem xq(he:PE X e te):PS X (.Return (some e) pos) (uX te):=by intro pz s σ H D I h;exact wpAny_Return_some (aH (he pz s σ H _ I h) fun v s1 ⟨x,H1,I1,r1,q1⟩=>⟨x,σ,H1,I1,r1,q1⟩)
def vC(c:TT)(t u:TS):TS:=fun D σ H=>c σ H fun b H1=>if b=true then t D σ H1 else u D σ H1
theorem Cp{c:Expr}{a b:List Stmt}{tc:TT}(hc:PT X c tc)(ha:dU X a t)(hb:dU X b u):PS X (.If c a b pos) (vC tc t u):=by intro pz s σ H D I h;refine wpAny_If (aH (hc pz s σ H _ I h) fun d s1 ⟨H1,I1,q1⟩=>?_);cases d with
|true=>exact ha pz s1 σ H1 D I1 q1
|false=>exact hb pz s1 σ H1 D I1 q1
def DG:TS:=fun _ _ _=>False
theorem GZ:PS X st DG:=fun _ _ _ _ _ _ h=>h.elim
end
abbrev TG:=V->St->Hp->(St->Hp->Prop)->Prop
abbrev iI:=List V->St->Hp->(St->Hp->Prop)->Prop
def PG(X:Cx)(target:Expr)(t:TG):Prop:=∀(pz:List (Addr×Obj))(s:f_)(σ:St)(H:Hp)(v:V)(u:a_)(Q:St->Hp->Prop),Inv X pz σ H s->aq v u->t v σ H Q ->C_ (H_ X.prog X.w) X.A (NC target X.env u) (fun _ s'=>∃σ' H',Inv X pz σ' H' s'/\Q σ' H') X.xe s
def il(X:Cx)(ts:List Expr)(t:iI):Prop:=∀(pz:List (Addr×Obj))(s:f_)(σ:St)(H:Hp)(vs:List V)(us:List a_)(Q:St->Hp->Prop),Inv X pz σ H s->ak vs us->t vs σ H Q ->C_ (H_ X.prog X.w) X.A (assignInOrder ((LB ts X.env).map (·.2)) us) (fun _ s'=>∃σ' H',Inv X pz σ' H' s'/\Q σ' H') X.xe s
abbrev jo:=V->V->V->Hp->(Hp->Prop)->Prop
def eN(X:Cx)(t:jo):Prop:=∀(pz:List (Addr×Obj))(s:f_)(σ:St)(H:Hp)(o i v:V)(ov iv u:a_)(Q:Hp->Prop),Inv X pz σ H s->aq o ov->aq i iv->aq v u->t o i v H Q ->C_ (H_ X.prog X.w) X.A (Ry ov iv u) (fun _ s'=>∃H',Inv X pz σ H' s'/\Q H') X.xe s
section
variable{X:Cx}{pos:Pos}
def wB(i:Nat):TG:=fun v σ H Q=>Q (σ.set i (some v)) H
theorem FU{i:Nat}{x:Str}(hN:X.N.Nodup)(hi:X.N[i]? = some x)(hx:im X.env.scope x)(hf:X.fn x=true\/X.env.scope.names.lookup x=some .local:=by first|exact .inl rfl|exact .inr rfl|assumption):PG X (.Name x pos) (wB i):=by intro pz s σ H v u Q I r h;exact PQ (zD I hN hi hx r (fun s' I'=>⟨_,H,I',h⟩) hf)
def vT:iI:=fun vs σ H Q=>vs=[]/\Q σ H
def CC(t:TG)(u:iI):iI:=fun vs σ H Q=>∃v r,vs=v::r/\t v σ H fun σ' H'=>u r σ' H' Q
theorem FV:il X [] vT:=by intro pz s σ H vs us Q I r h;obtain⟨e,h⟩:=h;subst e;cases r;exact assignInOrder_nil ⟨σ,H,I,h⟩
theorem GX{e:Expr}{es:List Expr}{t:TG}{u:iI}(h1:PG X e t)(h2:il X es u)(hs:(LB (e::es) X.env).map (·.2)=NC e X.env::(LB es X.env).map (·.2):=by rfl):il X (e::es) (CC t u):=by intro pz s σ H vs us Q I r h;obtain⟨v,vr,e1,h⟩:=h;subst e1;cases r with
|cons r rr=>rw[hs];refine assignInOrder_cons (aH (h1 pz s σ H _ _ _ I r h) fun _ s1 ⟨σ1,H1,I1,q1⟩=>?_);exact h2 pz s1 σ1 H1 _ _ Q I1 rr q1
def vR(K:W.Frag)(n:Nat)(t:iI):TG:=fun v σ H Q=>∃a xs,v=.ref a/\bF K H a xs/\xs.length=n/\t xs σ H Q
theorem DX{es:List Expr}{k:Nat}{t:iI}{n:Nat}(hc:X.calm=true)(h:il X es t)(hn:(LB es X.env).length=n:=by rfl)(hst:(LB es X.env).findIdx? (·.1)=none:=by rfl):PG X (.Tuple es k pos) (vR X.K n t):=by intro pz s σ H v u Q I r hw;obtain⟨a,xs,e1,hq,hl,hw⟩:=hw;subst e1;cases r;obtain⟨its,rv,ht,hz⟩:=I.tuple hq;refine assign_Tuple_tuple (I.ok.hd hc) ht (by simp[hn,<-hl,rv.length]) hst fun h' hx=>?_;have I1:Inv X pz σ H { s with heap:=h' }:=I.kept (t':=s.toks) fun b o e=>hx b o (D_ (o_ e)) e;exact h pz _ σ H xs _ Q I1 (by simpa using rv) hw
def vS(to ti:TE)(t:jo):TG:=fun v σ H Q=>to σ H fun o H1=>ti σ H1 fun i H2=>t o i v H2 fun H3=>Q σ H3
theorem DW{o i:Expr}{to ti:TE}{t:jo}(ho:PE X o to)(hi:PE X i ti)(hs:eN X t)(ha:∀v,NC (.Subscript o i pos) X.env v=(do
   let ov <-OI [v] (eval o X.env);let iv <-OI [v,ov] (eval i X.env)
   Rz pos
   OI [v,ov,iv] (Ry ov iv v)
   release [v,ov,iv] []):=by intro _;rfl):PG X (.Subscript o i pos) (vS to ti t):=by intro pz s σ H v u Q I r h;rw[ha];refine b_ (Ll (aH (ho pz s σ H _ I h) fun ov s1 ⟨x,H1,I1,r1,q1⟩=>?_));refine b_ (Ll (aH (hi pz s1 σ H1 _ I1 q1) fun iv s2 ⟨y,H2,I2,r2,q2⟩=>?_));refine b_ (Oj (b_ (Ll (aH (hs pz s2 σ H2 x y v ov iv u _ I2 r1 r2 r q2) fun _ s3 ⟨H3,I3,q3⟩=>?_))));exact wpAny_release ⟨σ,H3,I3,q3⟩
def nv(te:TE)(g:TG):TS:=fun D σ H=>te σ H fun x H1=>g x σ H1 D.nx
theorem xp{tg e:Expr}{te:TE}{g:TG}(he:PE X e te)(hg:PG X tg g)(hs:Pt [tg] e pos.line X.env=pure false:=by rfl)(hw:Pu [tg] e X.env=pure none:=by rfl)(h1:(LB [tg] X.env).map (·.2)=[NC tg X.env]:=by rfl):PS X (.Assign [tg] e pos) (nv te g):=by intro pz s σ H D I h;refine wpAny_Assign_stores (aH (he pz s σ H _ I h) fun v s1 ⟨x,H1,I1,r1,q1⟩=>?_) hs hw;rw[h1];exact aH (hg pz s1 σ H1 x v _ I1 r1 q1) fun _ s2 q=>q
theorem xr{i:Nat}{x:Str}{e:Expr}{te:TE}{pos':Pos}(hN:X.N.Nodup)(hi:X.N[i]? = some x)(hx:im X.env.scope x)(he:PE X e te)(hs:Ox e (some (.Name x pos')) pos.line X.env=pure false:=by rfl)(hf:X.fn x=true\/X.env.scope.names.lookup x=some .local:=by first|exact .inl rfl|exact .inr rfl|assumption):PS X (.Assign [.Name x pos'] e pos) (nv te (wB i)):=by intro pz s σ H D I h;refine wpAny_Assign_Name (aH (he pz s σ H _ I h) fun v s1 ⟨y,H1,I1,r1,q1⟩=>?_) hs;exact zD I1 hN hi hx r1 (fun s2 I2=>⟨_,H1,I2,q1⟩) hf
end
section
variable{X:Cx}{pos:Pos}
def DH(c:TT)(tb:TS):TS:=fun D σ H=>∃W:Nat->St->Hp->Prop,(∃m,W m σ H)/\∀m σ H,W m σ H ->c σ H fun b H1=>if b=true then ∃N:St->Hp->Prop,(∀σ' H',N σ' H'->∃m',m'<m/\W m' σ' H')/\tb { D with nx:=N,ct:=N,bk:=D.nx } σ H1 else D.nx σ H1
theorem G6{c:Expr}{body:List Stmt}{tc:TT}{tb:TS}(hp:Oy (H_ X.prog X.w) X.A X.env X.xe)(hc:PT X c tc)(hb:dU X body tb):PS X (.While c body [] pos) (DH tc tb):=by
 intro pz s σ H D I h;obtain⟨W,⟨m0,w0⟩,turn⟩:=h;refine wpAny_While (codeAny_whileLoop (fun n s'=>∃σ' H',Inv X pz σ' H' s'/\W n σ' H') ?_ m0 ⟨σ,H,I,w0⟩)
 rintro n s1 ⟨σ1,H1,I1,w1⟩
 refine Me hp (aH (hc pz s1 σ1 H1 _ I1 (turn n σ1 H1 w1)) fun b s2 ⟨H2,I2,q2⟩=>?_);cases b with
|true=>obtain⟨N,hN,q2⟩:=q2;rw[if_pos rfl];refine Me hp (aH (hb pz s2 σ1 H2 _ I2 q2) fun f s3 q3=>?_);cases f with
 |next=>obtain⟨σ3,H3,I3,n3⟩:=q3;obtain⟨m',hm,w3⟩:=hN σ3 H3 n3;exact⟨m',hm,σ3,H3,I3,w3⟩
 |cont=>obtain⟨σ3,H3,I3,n3⟩:=q3;obtain⟨m',hm,w3⟩:=hN σ3 H3 n3;exact⟨m',hm,σ3,H3,I3,w3⟩
 |brk=>exact q3
 |ret v=>exact q3
|false=>rw[if_neg i_];exact O3 ⟨σ1,H2,I2,q2⟩
end
structure It where
 go:Nat->Hp->Prop
 yld:Nat->Hp->V->Hp->Prop
 stop:Nat->Hp->Prop
def cO(X:Cx)(pz:List (Addr×Obj))(H:Hp)(b:Addr):Prop:=H b=none/\b≠X.env.locals/\b∉X.fs/\(b∈X.ex\/X.s₀.heap.objs.size<=b)/\(∀x c,X.env.cells.lookup x=some c->c≠b)/\∀p∈X.pn++pz,p.1≠b
theorem Inv.fpOk{X:Cx}{pz:List (Addr×Obj)}{σ:St}{H H':Hp}{s:f_}{b:Addr}(I:Inv X pz σ H s)(hb:s.heap.objs.size<=b)(hn:H' b=none):cO X pz H' b:=by
 refine⟨hn,KL (F_ I.lt hb),I.nofs hb,.inr (KF I.sz hb),fun x c e z=>?_,fun p hp z=>?_⟩
 .obtain⟨v,q⟩:=I.cell x c e;exact absurd (F_ q.lt (by rw[z];exact hb)) (K_ _)
 .exact absurd (F_ (o_ (I.pin p hp).1) (by rw[z];exact hb)) (K_ _)
structure Turn(P:E_)(w:Kz)(K:W.Frag)(tg:Expr)(J:It)(fp:List Addr)(it:Addr)(tn:Nat->Heap->Prop):Prop where
 mem:it∈fp
 obj:∀i h,tn i h->∀b∈fp,∃o,h.get? b=some o/\∀v,o.data≠.cell v
 keep:∀i h h',tn i h->(∀b∈fp,∀o,h.get? b=some o->h'.get? b=some o)->tn i h'
 item:∀(X:Cx),X.prog=P->X.w=w->X.K=K->X.calm=true->∀(i:Nat)(pz:List (Addr×Obj))(s:f_)(σ:St)(H:Hp)(E:a_->f_->Prop),Inv X pz σ H s->(∀b∈fp,cO X pz H b)->tn i s.heap->J.go i H ->C_ (H_ P w) X.A (ND (.ref it)) (fun r s1=>∃u,r=some u /\C_ (H_ P w) X.A (NE tg (.ref it) u) (fun _ s2=>∃x H',Inv X pz σ H' s2/\aq x u/\J.yld i H x H'/\tn (i+1) s2.heap/\∀b∈fp,H' b=none) E s1) E s
 done:∀(X:Cx),X.prog=P->X.w=w->X.K=K->X.calm=true->∀(i:Nat)(pz:List (Addr×Obj))(s:f_)(σ:St)(H:Hp)(E:a_->f_->Prop),Inv X pz σ H s->(∀b∈fp,cO X pz H b)->tn i s.heap->J.stop i H ->C_ (H_ P w) X.A (ND (.ref it)) (fun r s1=>r=none/\Inv X pz σ H s1) E s
 self:∀(A:KM)(i:Nat)(s:f_)(Q:a_->f_->Prop)(E:a_->f_->Prop),tn i s.heap->Q (.ref it) s->C_ (H_ P w) A (pyIter (.ref it)) Q E s
abbrev TI:=St->Hp->(It->Hp->Prop)->Prop
def By(X:Cx)(pz:List (Addr×Obj))(σ:St)(tg:Expr)(R:It->Hp->Prop)(itv:a_)(s2:f_):Prop:=∃(it:Addr)(fp:List Addr)(tn:Nat->Heap->Prop)(J:It)(H':Hp),itv=.ref it/\Inv X pz σ H' s2/\Turn X.prog X.w X.K tg J fp it tn/\tn 0 s2.heap/\(∀b∈fp,cO X pz H' b)/\R J H'
def PI(X:Cx)(tg iter:Expr)(wi:TI):Prop:=∀(pz:List (Addr×Obj))(s:f_)(σ:St)(H:Hp)(R:It->Hp->Prop),Inv X pz σ H s->wi σ H R ->C_ (H_ X.prog X.w) X.A (eval iter X.env) (fun v s1=>C_ (H_ X.prog X.w) X.A (pyIter v) (By X pz σ tg R) X.xe s1) X.xe s
theorem qD{M:Model}{A:KM}{E:a_->f_->Prop}{s:f_}{tg:Expr}{it:Addr}{u:a_}{o:Obj}{n:String}{vs:Array a_}{Q:Unit->f_->Prop}(ho:s.heap.get? it=some o)(hc:o.cls=.type n)(hd:o.data=.fields vs)(hn : ["enumerate","zip","dict_itemiterator","dict_reverseitemiterator","odict_iterator","itertools.zip_longest","itertools.pairwise"].contains n=false)(hQ:Q () s):C_ M A (NE tg (.ref it) u) Q E s:=by
  unfold NE;cases tg <;> first
    |exact u_ hQ
    |(cases u <;> first
        |exact u_ hQ
        | (refine b_ (wpAny_load ho ?_)
           rw[hc,hd];show C_ M A (if (["enumerate","zip","dict_itemiterator","dict_reverseitemiterator","odict_iterator","itertools.zip_longest","itertools.pairwise"].contains n&&vs[0]? == some (NU _))=true then _ else _) Q E s;rw[if_neg (by intro h;rw[hn,QI]at h;cases h)];exact u_ hQ))
def nS(K:W.Frag)(a:Addr):It:=⟨fun i H=>∃xs x,aO K H a xs/\xs[i]? = some x,fun i H x H'=>H'=H/\∀xs,aO K H a xs->xs[i]? = some x,fun i H=>∃xs,aO K H a xs/\xs.length<=i⟩
def wd(K:W.Frag)(a:Addr):It:=⟨fun i H=>∃xs x,bF K H a xs/\xs[i]? = some x,fun i H x H'=>H'=H/\∀xs,bF K H a xs->xs[i]? = some x,fun i H=>∃xs,bF K H a xs/\xs.length<=i⟩
def qt(lo:Int)(n:Nat):It:=⟨fun i _=>i<n,fun i H x H'=>H'=H/\x=.int (lo+i),fun i _=>n<=i⟩
theorem HY{P:E_}{w:Kz}{K:W.Frag}{tg:Expr}(a it:Addr):Turn P w K tg (nS K a) [it] it (fun i h=>h.IsListIter it a i) where
 mem:=by simp
 obj:=fun i h st b hb=>by
  have e:b=it:=by simpa using hb
  subst e;obtain⟨o,e,c,d⟩:=st;exact⟨o,e,fun v z=>by rw[d]at z;cases z⟩
 keep:=fun i h h' st k=>st.at fun o e=>k it (by simp) o e
 item:=by intro X hP hw hK hc i pz s σ H E I hf st hg;subst hP hw hK;obtain⟨xs,x,hq,hx⟩:=hg;obtain⟨its,rv,p,hz⟩:=I.list hq;obtain⟨u,hu,ru⟩:=rv.get hx;obtain⟨f0,f1,f2,f3,f4,f5⟩:=hf it (by simp);refine wpAny_pyNext_list_item st p.isList (x:=u) (by simpa using hu) fun h' st' sb=>?_;have I1:Inv X pz σ H { s with heap:=h' }:=I.turned (t':=s.toks) (fun b o hb e=>(sb.2 b hb).trans e) f0 f1 f3 f4 f5;obtain⟨o,e,c,d⟩:=id st';exact⟨u,rfl,qD (s:={ s with heap:=h' }) e c d (by decide) ⟨x,H,I1,ru,⟨rfl,fun ys hy=>by rw[I.list_inj hy hq];exact hx⟩,st',fun b hb=>(hf b hb).1⟩⟩
 done:=by intro X hP hw hK hc i pz s σ H E I hf st hg;subst hP hw hK;obtain⟨xs,hq,hx⟩:=hg;obtain⟨its,rv,p,hz⟩:=I.list hq;obtain⟨f0,f1,f2,f3,f4,f5⟩:=hf it (by simp);have hl:=rv.length;exact wpAny_pyNext_list_end (I.ok.hd hc) st p.isList (by simp;omega) fun h' eb=>⟨rfl,I.turned (t':=s.toks) (fun b o hb e=>eb b o hb e) f0 f1 f3 f4 f5⟩
 self:=fun _ _ _ _ _ st h=>wpAny_pyIter_listiter st h
theorem IP{P:E_}{w:Kz}{K:W.Frag}{tg:Expr}(a it:Addr):Turn P w K tg (wd K a) [it] it (fun i h=>h.IsTupleIter it a i) where
 mem:=by simp
 obj:=fun i h st b hb=>by
  have e:b=it:=by simpa using hb
  subst e;obtain⟨o,e,c,d⟩:=st;exact⟨o,e,fun v z=>by rw[d]at z;cases z⟩
 keep:=fun i h h' st k=>st.at fun o e=>k it (by simp) o e
 item:=by intro X hP hw hK hc i pz s σ H E I hf st hg;subst hP hw hK;obtain⟨xs,x,hq,hx⟩:=hg;obtain⟨its,rv,p,hz⟩:=I.tuple hq;obtain⟨u,hu,ru⟩:=rv.get hx;obtain⟨f0,f1,f2,f3,f4,f5⟩:=hf it (by simp);refine wpAny_pyNext_tuple_item st (show s.heap.IsTuple a its.toArray from p) (x:=u) (by simpa using hu) fun h' st' sb=>?_;have I1:Inv X pz σ H { s with heap:=h' }:=I.turned (t':=s.toks) (fun b o hb e=>(sb.2 b hb).trans e) f0 f1 f3 f4 f5;obtain⟨o,e,c,d⟩:=id st';exact⟨u,rfl,qD (s:={ s with heap:=h' }) e c d (by decide) ⟨x,H,I1,ru,⟨rfl,fun ys hy=>by rw[I.tuple_inj hy hq];exact hx⟩,st',fun b hb=>(hf b hb).1⟩⟩
 done:=by intro X hP hw hK hc i pz s σ H E I hf st hg;subst hP hw hK;obtain⟨xs,hq,hx⟩:=hg;obtain⟨its,rv,p,hz⟩:=I.tuple hq;obtain⟨f0,f1,f2,f3,f4,f5⟩:=hf it (by simp);have hl:=rv.length;exact wpAny_pyNext_tuple_end (I.ok.hd hc) st (show s.heap.IsTuple a its.toArray from p) (by simp;omega) fun h' eb=>⟨rfl,I.turned (t':=s.toks) (fun b o hb e=>eb b o hb e) f0 f1 f3 f4 f5⟩
 self:=fun _ _ _ _ _ st h=>wpAny_pyIter_tupleiter st h
theorem IM{P:E_}{w:Kz}{K:W.Frag}{tg:Expr}(it:Addr)(lo:Int)(n:Nat):Turn P w K tg (qt lo n) [it] it (fun i h=>IsRangeIter h it (lo+(i:Nat)*1) ((n:Int)-(i:Nat)) 1) where
 mem:=by simp
 obj:=fun i h st b hb=>by
  have e:b=it:=by simpa using hb
  subst e;exact⟨_,st,fun v z=>by have z':Data.fields _=Data.cell v:=z;cases z'⟩
 keep:=fun i h h' st k=>k it (by simp) _ st
 item:=by intro X hP hw hK hc i pz s σ H E I hf st hg;subst hP hw hK;obtain⟨f0,f1,f2,f3,f4,f5⟩:=hf it (by simp);have W:=Walks.range (prog:=X.prog) (w:=X.w) (I.ok.hd hc) it lo 1 n;refine W.item i s _ _ hg st fun v h' tk hv st' kk=>?_;obtain⟨t,rfl⟩:=hv;have I1:Inv X pz σ H { s with heap:=h',toks:=tk }:=I.turned (fun b o hb e=>kk b o (by simpa using hb) e) f0 f1 f3 f4 f5;refine⟨_,rfl,qD (s:={ s with heap:=h',toks:=tk }) (n := "range_iterator") st' rfl rfl (by decide) ⟨.int (lo+i),H,I1,⟨t,?_⟩,⟨rfl,rfl⟩,st',fun b hb=>(hf b hb).1⟩⟩;rw[Int.mul_one]
 done:=by intro X hP hw hK hc i pz s σ H E I hf st hg;subst hP hw hK;obtain⟨f0,f1,f2,f3,f4,f5⟩:=hf it (by simp);exact wpAny_pyNext_range_end (I.ok.hd hc) st (by have:n<=i:=hg;omega) fun h' eb=>⟨rfl,I.turned (t':=s.toks) (fun b o hb e=>eb b o hb e) f0 f1 f3 f4 f5⟩
 self:=fun _ _ _ _ _ st h=>wpAny_pyIter_rangeiter st h
section
variable{X:Cx}{tg:Expr}
theorem Hd{pz:List (Addr×Obj)}{σ:St}{H:Hp}{s:f_}{R:It->Hp->Prop}{E:a_->f_->Prop}{lo hi:Int}{t u v:Tok}{tk:Nat}(I:Inv X pz σ H s)(h1 : -(2^62)<=lo)(h2:lo<2^62)(h3 : -(2^62)<=hi)(h4:hi<2^62)(q:R (qt lo (hi-lo).toNat) H):C_ (H_ X.prog X.w) X.A (pyIter (.ref s.heap.objs.size)) (By X pz σ tg R) E { s with heap:=s.heap.push { cls:=.type "range",data:=.fields #[.int lo t,.int hi u,.int 1 v] },toks:=tk }:=by
 refine wpAny_pyIter_range (IsRange.new ..) (small_one h1 h2 h3 h4) ?_;have I1:Inv X pz σ H { s with heap:=s.heap.push { cls:=.type "range",data:=.fields #[.int lo t,.int hi u,.int 1 v] },toks:=tk }:=I.kept fun b o e=>e_ _ e;refine⟨(s.heap.push { cls:=.type "range",data:=.fields #[.int lo t,.int hi u,.int 1 v] }).objs.size,[(s.heap.push { cls:=.type "range",data:=.fields #[.int lo t,.int hi u,.int 1 v] }).objs.size],_,_,H,rfl,I1.kept (t':=tk) fun b o e=>e_ _ e,IM _ lo (hi-lo).toNat,?_,fun b hb=>?_,q⟩
 .have e1:lo+((0:Nat):Int)*1=lo:=by simp
  have e2:(((hi-lo).toNat:Nat):Int)-((0:Nat):Int)=Oz lo hi 1:=by rw[rangeSize_one];split <;> omega
  show IsRangeIter _ _ (lo+((0:Nat):Int)*1) ((((hi-lo).toNat:Nat):Int)-((0:Nat):Int)) 1;rw[e1,e2];exact y_ _ rfl
 .have e:b=(s.heap.push { cls:=.type "range",data:=.fields #[.int lo t,.int hi u,.int 1 v] }).objs.size:=by simpa using hb
  subst e;exact I1.fpOk (q_ _) (I1.hok.fresh (q_ _))
def CD(ta:TA):TI:=fun σ H R=>ta σ H fun vs H1=>∃j:Int,vs=[.int j]/\-(2^62)<=j/\j<2^62/\R (qt 0 j.toNat) H1
theorem ID{a:Expr}{ta:TA}{p pos:Pos}(hg:Gl X "range")(hm:X.mg "range" = none)(ha:PA X [a] ta)(hs:m_ [a] X.env=[(false,eval a X.env)]:=by rfl):PI X tg (.Call (.Name "range" p) [a] [] pos) (CD ta):=by intro pz s σ H R I h;refine Call_ (jy I hg hm boot_range (Lf (aH (ha pos pz s σ H _ I h) fun us s1 ⟨vs,H1,I1,r1,q1⟩=>?_) hs rfl));obtain⟨j,e,q1,q2,q⟩:=q1;subst e;cases r1 with
|cons r rr=>cases rr;obtain⟨t,rfl⟩:=r;exact call_range_1 (Hd I1 (by omega) (by omega) q1 q2 (by simpa using q))
def vD(wi:TI)(g:TG)(tb:TS):TS:=fun D σ H=>wi σ H fun J H1=>∃W:Nat->Nat->St->Hp->Prop,(∃m,W 0 m σ H1)/\∀i m σ H,W i m σ H ->(J.stop i H/\D.nx σ H)\/(J.go i H/\∃N:St->Hp->Prop,(∀σ' H',N σ' H'->∃m',m'<m/\W (i+1) m' σ' H')/\∀x H',J.yld i H x H'->g x σ H' fun σ2 H2=>tb { D with nx:=N,ct:=N,bk:=D.nx } σ2 H2)
def mz(fp:List Addr)(h:Heap):List (Addr×Obj):=fp.filterMap fun b=>(h.get? b).map fun o=>(b,o)
theorem pF{fp:List Addr}{h:Heap}{b:Addr}{o:Obj}(hb:b∈fp)(e:h.get? b=some o):(b,o)∈mz fp h:=KY.mpr ⟨b,hb,by rw[e];rfl⟩
theorem HF{fp:List Addr}{h:Heap}{p:Addr×Obj}(hp:p∈mz fp h):p.1∈fp/\h.get? p.1=some p.2:=by obtain⟨b,hb,e⟩:=KY.mp hp;cases q:h.get? b with
|none=>rw[q]at e;cases e
|some o=>rw[q]at e;have e':(b,o)=p:=G_ e;subst e';exact⟨hb,q⟩
theorem Inv.pinned{pz:List (Addr×Obj)}{σ:St}{H:Hp}{s:f_}{fp:List Addr}(I:Inv X pz σ H s)(hf:∀b∈fp,cO X pz H b)(ho:∀b∈fp,∃o,s.heap.get? b=some o/\∀v,o.data≠.cell v):Inv X (pz++mz fp s.heap) σ H s:=I.pins_of fun p hp=>(KU.mp hp).elim (fun z=>I.pin p (KG _ z)) fun z=>by obtain⟨hb,e⟩:=HF z;obtain⟨f0,f1,f2,_⟩:=hf p.1 hb;obtain⟨o,e',d⟩:=ho p.1 hb;rw[e]at e';cases e';exact⟨e,f0,f1,f2,d⟩
theorem Inv.unpinned{pz pl:List (Addr×Obj)}{σ:St}{H:Hp}{s:f_}(I:Inv X (pz++pl) σ H s):Inv X pz σ H s:=I.pins_of fun p hp=>I.pin p (KG _ (Lv _ hp))
theorem rc{iter:Expr}{body:List Stmt}{wi:TI}{g:TG}{tb:TS}{pos:Pos}(hp:Oy (H_ X.prog X.w) X.A X.env X.xe)(hc:X.calm=true)(hi:PI X tg iter wi)(hg:PG X tg g)(hb:dU X body tb)(hs:∀x,Mi iter X.env x=pure x:=by intro _;rfl):PS X (.For tg iter body [] pos) (vD wi g tb):=by
 intro pz s σ H D I h;refine wpAny_For (aH (hi pz s σ H _ I h) fun v s1 h1=>aH h1 fun itv s2 h2=>?_) hs;obtain⟨it,fp,tn,J,H2,e,I2,T,st2,f2,W,⟨m0,w0⟩,turn⟩:=h2;subst e;have stat:∀{H':Hp},(∀b∈fp,H' b=none)->∀b∈fp,cO X pz H' b:=fun hn b hb=>⟨hn b hb,(f2 b hb).2⟩
 refine codeAny_forLoop_any (fun n s'=>∃i σ' H',Inv X pz σ' H' s'/\tn i s'.heap/\(∀b∈fp,H' b=none)/\W i n σ' H') ?_ m0 ⟨0,σ,H2,I2,st2,fun b hb=>(f2 b hb).1,w0⟩
 rintro n s3 ⟨i,σ3,H3,I3,st3,fr3,w3⟩
 rcases turn i n σ3 H3 w3 with⟨stop,qn⟩|⟨go,N,hN,step⟩
 .refine Me hp (aH (T.done X rfl rfl rfl hc i pz s3 σ3 H3 X.xe I3 (stat fr3) st3 stop) fun r s4 ⟨hr,I4⟩=>?_);subst hr;exact O3 ⟨σ3,H3,I4,qn⟩
 .refine Me hp (aH (T.item X rfl rfl rfl hc i pz s3 σ3 H3 X.xe I3 (stat fr3) st3 go) fun r s4 ⟨u,hr,h4⟩=>?_);subst hr;refine Me hp (aH h4 fun _ s5 ⟨x,H5,I5,r5,y5,st5,fr5⟩=>?_);have I5':=I5.pinned (stat fr5) (T.obj _ _ st5);refine Me hp (aH (hg _ s5 σ3 H5 x u _ I5' r5 (step x H5 y5)) fun _ s6 ⟨σ6,H6,I6,q6⟩=>?_);refine Me hp (aH (hb _ s6 σ6 H6 _ I6 q6) fun f s7 q7=>?_);have again:∀{σ7:St}{H7:Hp},Inv X (pz++mz fp s5.heap) σ7 H7 s7->N σ7 H7->∃m,m<n/\∃i σ' H',Inv X pz σ' H' s7/\tn i s7.heap/\(∀b∈fp,H' b=none)/\W i m σ' H':=fun{σ7 H7} I7 n7=>by obtain⟨m',hm,w7⟩:=hN σ7 H7 n7;refine⟨m',hm,i+1,σ7,H7,I7.unpinned,T.keep _ _ _ st5 fun b hb o e=>(I7.pin (b,o) (KG _ (KG _ (pF hb e)))).1,fun b hb=>?_,w7⟩;obtain⟨o,e,d⟩:=T.obj _ _ st5 b hb;exact(I7.pin (b,o) (KG _ (KG _ (pF hb e)))).2.1
  cases f with
 |next=>obtain⟨σ7,H7,I7,n7⟩:=q7;exact again I7 n7
 |cont=>obtain⟨σ7,H7,I7,n7⟩:=q7;exact again I7 n7
 |brk=>obtain⟨σ7,H7,I7,q7⟩:=q7;exact⟨σ7,H7,I7.unpinned,q7⟩
 |ret v=>obtain⟨x7,σ7,H7,I7,r7,q7⟩:=q7;exact⟨x7,σ7,H7,I7.unpinned,r7,q7⟩
end
abbrev R2:=V->V->Hp->VK->Prop
def aT(X:Cx)(f:a_->a_->Sem a_)(r:R2):Prop:=∀(pz:List (Addr×Obj))(s:f_)(σ:St)(H:Hp)(x y:V)(v u:a_)(Q:VK),Inv X pz σ H s->aq x v->aq y u->r x y H Q ->C_ (H_ X.prog X.w) X.A (f v u) (EP X pz σ Q) X.xe s
def vW(X:Cx)(f:a_->Sem a_)(r:V->Hp->VK->Prop):Prop:=∀(pz:List (Addr×Obj))(s:f_)(σ:St)(H:Hp)(x:V)(v:a_)(Q:VK),Inv X pz σ H s->aq x v->r x H Q ->C_ (H_ X.prog X.w) X.A (f v) (EP X pz σ Q) X.xe s
def dW(X:Cx)(f:a_)(r:List V->Hp->VK->Prop):Prop:=∀(pz:List (Addr×Obj))(s:f_)(σ:St)(H:Hp)(xs:List V)(us:List a_)(Q:VK),Inv X pz σ H s->ak xs us->r xs H Q ->C_ (H_ X.prog X.w) X.A (call f us) (EP X pz σ Q) X.xe s
def vX(X:Cx)(r:V->Hp->(Bool->Hp->Prop)->Prop):Prop:=∀(pz:List (Addr×Obj))(s:f_)(σ:St)(H:Hp)(x:V)(v:a_)(Q:Bool->Hp->Prop),Inv X pz σ H s->aq x v->r x H Q ->C_ (H_ X.prog X.w) X.A (truthy v) (TP X pz σ Q) X.xe s
def lZ(r:R2)(ta tb:TE):TE:=fun σ H Q=>ta σ H fun x H1=>tb σ H1 fun y H2=>r x y H2 Q
def J9(r:V->Hp->VK->Prop)(ta:TE):TE:=fun σ H Q=>ta σ H fun x H1=>r x H1 Q
def rI(C:Int->Int->Prop)(g:Int->Int->V):R2:=fun x y H Q=>∃i j,x=.int i/\y=.int j/\C i j/\Q (g i j) H
def iF(g:Int->Int->V):R2:=fun x y H Q=>∃i j,x=.int i/\y=.int j/\Q (g i j) H
def rU(g:Int->V):V->Hp->VK->Prop:=fun x H Q=>∃i,x=.int i/\Q (g i) H
section
variable{X:Cx}{a b c:Expr}{ta tb tc:TE}{pos:Pos}
theorem kP(ha:PE X a ta)(hb:PE X b tb){pz:List (Addr×Obj)}{s:f_}{σ:St}{H:Hp}{R:V->V->Hp->Prop}(I:Inv X pz σ H s)(h:ta σ H fun x H1=>tb σ H1 fun y H2=>R x y H2){Q:a_->f_->Prop}{f:a_->a_->Sem a_}(hf:∀v u s2 x y H2,Inv X pz σ H2 s2->aq x v->aq y u->R x y H2->C_ (H_ X.prog X.w) X.A (f v u) Q X.xe s2):C_ (H_ X.prog X.w) X.A (eval a X.env) (fun v s₁=>C_ (H_ X.prog X.w) X.A (eval b X.env) (fun u s₂=>C_ (H_ X.prog X.w) X.A (f v u) Q X.xe s₂) X.xe s₁) X.xe s:=by refine aH (ha pz s σ H _ I h) fun v s1 ⟨x,H1,I1,r1,q1⟩=>?_;refine aH (hb pz s1 σ H1 _ I1 q1) fun u s2 ⟨y,H2,I2,r2,q2⟩=>?_;exact hf v u s2 x y H2 I2 r1 r2 q2
theorem Cn{op:Operator}{r:R2}(ho:aT X (ME op) r)(ha:PE X a ta)(hb:PE X b tb):PE X (.BinOp a op b pos) (lZ r ta tb):=by intro pz s σ H Q I h;exact wpAny_BinOp (kP ha hb I h fun v u s2 x y H2 I2 rx ry q=>ho pz s2 σ H2 x y v u Q I2 rx ry q)
theorem Co{op:UnaryOp}{r:V->Hp->VK->Prop}(ho:vW X (unaryOp op) r)(ha:PE X a ta):PE X (.UnaryOp op a pos) (J9 r ta):=by intro pz s σ H Q I h;exact UnaryOp_ (aH (ha pz s σ H _ I h) fun v s1 ⟨x,H1,I1,r1,q1⟩=>ho pz s1 σ H1 x v Q I1 r1 q1)
theorem qp{f:a_->a_->Sem a_}{C:Int->Int->Prop}{g:Int->Int->Int}(rule:∀(i j:Int)(t u:Tok)(s:f_)(Q:a_->f_->Prop)(E:a_->f_->Prop),C i j->Q (.int (g i j) s.toks) { s with toks:=s.toks+1 }->C_ (H_ X.prog X.w) X.A (f (.int i t) (.int j u)) Q E s):aT X f (rI C fun i j=>.int (g i j)):=by intro pz s σ H x y v u Q I rx ry h;obtain⟨i,j,rfl,rfl,hc,q⟩:=h;obtain⟨t,rfl⟩:=rx;obtain⟨t',rfl⟩:=ry;exact rule i j t t' s _ _ hc ⟨.int (g i j),H,I.tok _,⟨_,rfl⟩,q⟩
theorem nI{f:a_->a_->Sem a_}{g:Int->Int->Int}(rule:∀(i j:Int)(t u:Tok)(s:f_)(Q:a_->f_->Prop)(E:a_->f_->Prop),Q (.int (g i j) s.toks) { s with toks:=s.toks+1 }->C_ (H_ X.prog X.w) X.A (f (.int i t) (.int j u)) Q E s):aT X f (iF fun i j=>.int (g i j)):=by intro pz s σ H x y v u Q I rx ry h;obtain⟨i,j,rfl,rfl,q⟩:=h;obtain⟨t,rfl⟩:=rx;obtain⟨t',rfl⟩:=ry;exact rule i j t t' s _ _ ⟨.int (g i j),H,I.tok _,⟨_,rfl⟩,q⟩
theorem kN{f:a_->a_->Sem a_}{g:Int->Int->Bool}(rule:∀(i j:Int)(t u:Tok)(s:f_)(Q:a_->f_->Prop)(E:a_->f_->Prop),Q (.bool (g i j)) s->C_ (H_ X.prog X.w) X.A (f (.int i t) (.int j u)) Q E s):aT X f (iF fun i j=>.bl (g i j)):=by intro pz s σ H x y v u Q I rx ry h;obtain⟨i,j,rfl,rfl,q⟩:=h;obtain⟨t,rfl⟩:=rx;obtain⟨t',rfl⟩:=ry;exact rule i j t t' s _ _ ⟨.bl (g i j),H,I,rfl,q⟩
def gB(i j:Int):Prop:=0<j/\j<1073741824
def gA(i j:Int):Prop:=0<=j/\j<=1000000/\i.natAbs<2^64
def fL(i j:Int):Prop:=(-(2^64)<i/\i<2^64)\/(-(2^64)<j/\j<2^64)
theorem fL.ok{i j:Int}(h:fL i j):IntMulOk i j:=by
 rcases h with⟨h1,h2⟩|⟨h1,h2⟩
 .exact .of_left (intBits_le_64 h1 h2)
 .exact .of_right (intBits_le_64 h1 h2)
theorem xP:aT X (ME .Add) (iF fun i j=>.int (i+j)):=nI fun _ _ _ _ _ _ _ q=>add_int q
theorem Eg:aT X (ME .Sub) (iF fun i j=>.int (i-j)):=nI fun _ _ _ _ _ _ _ q=>sub_int q
theorem Ee:aT X (ME .Mult) (rI fL fun i j=>.int (i*j)):=qp fun _ _ _ _ _ _ _ hc q=>mul_int q hc.ok
theorem EG:aT X (ME .FloorDiv) (rI gB fun i j=>.int (i/j)):=qp fun i j _ _ _ _ _ hc q=>by have h1:(0:Int)<j:=hc.1;have h2:j<1073741824:=hc.2;exact floordiv_int (by omega) (by rw[Int.fdiv_eq_ediv_of_nonneg i (by omega)];exact q) (.inl (PyProof.noPylong_small (by omega)))
theorem Ed:aT X (ME .Mod) (rI (fun _ j=>0<j) fun i j=>.int (i%j)):=qp fun i j _ _ _ _ _ hc q=>by have h1:(0:Int)<j:=hc;exact mod_int' (by omega) (by rw[Int.fmod_eq_emod_of_nonneg i (by omega)];exact q)
theorem Ef:aT X (ME .Pow) (rI gA fun i j=>.int (i^j.toNat)):=qp fun _ _ _ _ _ _ _ hc q=>pow_int_small hc.1 hc.2.1 hc.2.2 q
theorem J8{f:a_->Sem a_}{g:Int->Int}(rule:∀(i:Int)(t:Tok)(s:f_)(Q:a_->f_->Prop)(E:a_->f_->Prop),Q (.int (g i) s.toks) { s with toks:=s.toks+1 }->C_ (H_ X.prog X.w) X.A (f (.int i t)) Q E s):vW X f (rU fun i=>.int (g i)):=by intro pz s σ H x v Q I rx h;obtain⟨i,rfl,q⟩:=h;obtain⟨t,rfl⟩:=rx;exact rule i t s _ _ ⟨.int (g i),H,I.tok _,⟨_,rfl⟩,q⟩
theorem DQ:vW X (unaryOp .USub) (rU fun i=>.int (-i)):=J8 fun _ _ _ _ _ q=>neg_int q
end
def ja:V->V->Bool
|.non,.non=>true|.non,.int _=>true|.int _,.non=>true|.non,.bl _=>true|.bl _,.non=>true|.non,.str _=>true|.str _,.non=>true
|.int _,.int _=>true|.bl _,.bl _=>true|.str _,.str _=>true|.byt _,.byt _=>true
|.int _,.str _=>true|.str _,.int _=>true|.bl _,.str _=>true|.str _,.bl _=>true
|_,_=>false
def Bs:R2:=fun x y H Q=>ja x y=true/\Q (.bl (decide (x=y))) H
def Br:R2:=fun x y H Q=>ja x y=true/\Q (.bl (! decide (x=y))) H
theorem rN{i j:Int}:decide (V.int i=V.int j)=(i==j):=by rw[Kv];simp
theorem qZ{i j:Bool}:decide (V.bl i=V.bl j)=(i==j):=by rw[Kv];simp
theorem rO{i j:Str}:decide (V.str i=V.str j)=(i==j):=by rw[Kv];simp
theorem ye{i j:Array UInt8}:decide (V.byt i=V.byt j)=(i.toList==j.toList):=by rw[Kv];cases i;cases j;simp
section
variable{X:Cx}{a b c:Expr}{ta tb tc:TE}{pos:Pos}
theorem cg{pz:List (Addr×Obj)}{σ:St}{H:Hp}{s:f_}{Q:VK}{k k':Bool}(I:Inv X pz σ H s)(q:Q (.bl k) H)(e:k=k'):EP X pz σ Q (.bool k') s:=by subst e;exact⟨.bl k,H,I,rfl,q⟩
theorem wq:aT X (KQ .Eq) Bs:=by intro pz s σ H x y v u Q I rx ry h;obtain⟨hs,q⟩:=h;cases x with
|non=>cases rx;cases y with
 |non=>cases ry;exact QV (cg I q (by simp))
 |bl j=>cases ry;exact QW (cg I q (by simp))
 |int j=>obtain⟨t',rfl⟩:=ry;exact Q8 (cg I q (by simp))
 |str j=>obtain⟨t',rfl⟩:=ry;exact Q9 (cg I q (by simp))
 |_=>exact absurd (show false=true from hs) i_
|bl i=>cases rx;cases y with
 |non=>cases ry;exact QX (cg I q (by simp))
 |bl j=>cases ry;exact eq_bool (cg I q qZ)
 |str j=>obtain⟨t',rfl⟩:=ry;exact QY (cg I q (by simp))
 |_=>exact absurd (show false=true from hs) i_
|int i=>obtain⟨t,rfl⟩:=rx;cases y with
 |non=>cases ry;exact Q_ (cg I q (by simp))
 |int j=>obtain⟨t',rfl⟩:=ry;exact eq_int (cg I q rN)
 |str j=>obtain⟨t',rfl⟩:=ry;exact Ra (cg I q (by simp))
 |_=>exact absurd (show false=true from hs) i_
|str i=>obtain⟨t,rfl⟩:=rx;cases y with
 |non=>cases ry;exact Rb (cg I q (by simp))
 |bl j=>cases ry;exact QZ (cg I q (by simp))
 |int j=>obtain⟨t',rfl⟩:=ry;exact Rc (cg I q (by simp))
 |str j=>obtain⟨t',rfl⟩:=ry;exact eq_str (cg I q rO)
 |_=>exact absurd (show false=true from hs) i_
|byt i=>obtain⟨t,rfl⟩:=rx;cases y with
 |byt j=>obtain⟨t',rfl⟩:=ry;exact W.eq_bytes (cg I q ye)
 |_=>exact absurd (show false=true from hs) i_
|_=>cases y <;> exact absurd (show false=true from hs) i_
theorem Cj:aT X (KQ .NotEq) Br:=by intro pz s σ H x y v u Q I rx ry h;obtain⟨hs,q⟩:=h;cases x with
|non=>cases rx;cases y with
 |non=>cases ry;exact Q0 (cg I q (by simp))
 |bl j=>cases ry;exact Q1 (cg I q (by simp))
 |int j=>obtain⟨t',rfl⟩:=ry;exact Re (cg I q (by simp))
 |str j=>obtain⟨t',rfl⟩:=ry;exact Rf (cg I q (by simp))
 |_=>exact absurd (show false=true from hs) i_
|bl i=>cases rx;cases y with
 |non=>cases ry;exact Q2 (cg I q (by simp))
 |bl j=>cases ry;exact ne_bool (cg I q (congrArg not qZ))
 |str j=>obtain⟨t',rfl⟩:=ry;exact Q3 (cg I q (by simp))
 |_=>exact absurd (show false=true from hs) i_
|int i=>obtain⟨t,rfl⟩:=rx;cases y with
 |non=>cases ry;exact Rh (cg I q (by simp))
 |int j=>obtain⟨t',rfl⟩:=ry;exact ne_int (cg I q (congrArg not rN))
 |str j=>obtain⟨t',rfl⟩:=ry;exact Ri (cg I q (by simp))
 |_=>exact absurd (show false=true from hs) i_
|str i=>obtain⟨t,rfl⟩:=rx;cases y with
 |non=>cases ry;exact Rj (cg I q (by simp))
 |bl j=>cases ry;exact Q4 (cg I q (by simp))
 |int j=>obtain⟨t',rfl⟩:=ry;exact Rk (cg I q (by simp))
 |str j=>obtain⟨t',rfl⟩:=ry;exact ne_str (cg I q (congrArg not rO))
 |_=>exact absurd (show false=true from hs) i_
|byt i=>obtain⟨t,rfl⟩:=rx;cases y with
 |byt j=>obtain⟨t',rfl⟩:=ry;exact W.ne_bytes (cg I q (congrArg not ye))
 |_=>exact absurd (show false=true from hs) i_
|_=>cases y <;> exact absurd (show false=true from hs) i_
theorem wV:aT X (KQ .Lt) (iF fun i j=>.bl (decide (i<j))):=kN fun _ _ _ _ _ _ _ q=>lt_int q
theorem Ci:aT X (KQ .LtE) (iF fun i j=>.bl (decide (i<=j))):=kN fun _ _ _ _ _ _ _ q=>le_int q
theorem Cg:aT X (KQ .Gt) (iF fun i j=>.bl (decide (j<i))):=kN fun _ _ _ _ _ _ _ q=>gt_int q
theorem HJ:aT X (KQ .In) (fun x y H Q=>∃i j,x=.str i/\y=.str j/\Q (.bl (!(LS j i 0 j.length 1).isEmpty)) H):=by intro pz s σ H x y v u Q I rx ry h;obtain⟨i,j,rfl,rfl,q⟩:=h;obtain⟨t,rfl⟩:=rx;obtain⟨t',rfl⟩:=ry;exact in_str (cg I q rfl)
theorem C6:aT X (KQ .Is) (fun x y H Q=>y=.non/\Q (.bl (decide (x=.non))) H):=by
 intro pz s σ H x y v u Q I rx ry h;obtain⟨rfl,q⟩:=h;cases ry;refine is_none_gen (cg I q ?_);cases x <;> first
  |(cases rx;rfl)
  |(obtain⟨t,rfl⟩:=rx;rfl)
theorem FK:aT X (KQ .IsNot) (fun x y H Q=>y=.non/\Q (.bl (! decide (x=.non))) H):=by
 intro pz s σ H x y v u Q I rx ry h;obtain⟨rfl,q⟩:=h;cases ry;refine isnot_none_gen (cg I q ?_);cases x <;> first
  |(cases rx;rfl)
  |(obtain⟨t,rfl⟩:=rx;rfl)
theorem aT.or{f:a_->a_->Sem a_}{r r':R2}(h:aT X f r)(h':aT X f r'):aT X f (fun x y H Q=>r x y H Q\/r' x y H Q):=by
 intro pz s σ H x y v u Q I rx ry q;rcases q with q|q
 .exact h pz s σ H x y v u Q I rx ry q
 .exact h' pz s σ H x y v u Q I rx ry q
theorem j6(b:Expr){op:Rp}(h:op≠.In:=by decide)(h2:op≠.NotIn:=by decide):Ml op b=false:=by
 have e1:(op==CmpOp.In)=false:=by cases op <;> first|rfl|exact absurd rfl h
 have e2:(op==CmpOp.NotIn)=false:=by cases op <;> first|rfl|exact absurd rfl h2
 cases b <;> simp[Ml,e1,e2]
theorem FN{op:Rp}{r:R2}(ho:aT X (KQ op) r)(ha:PE X a ta)(hb:PE X b tb)(hm:Ml op b=false):PE X (.Compare a [op] [b] pos) (lZ r ta tb):=by intro pz s σ H Q I h;exact wpAny_Compare1 (kP ha hb I h fun v u s2 x y H2 I2 rx ry q=>ho pz s2 σ H2 x y v u Q I2 rx ry q) hm
def BW(t:TE):TT:=fun σ H Q=>t σ H fun x H'=>∃k,x=.bl k/\Q k H'
theorem Ft{op:Rp}{r:R2}(ho:aT X (KQ op) r)(ha:PE X a ta)(hb:PE X b tb)(hm:Ml op b=false):PT X (.Compare a [op] [b] pos) (BW (lZ r ta tb)):=by intro pz s σ H Q I h;refine wpAny_isTrue_Compare1 (aH (ha pz s σ H _ I h) fun v s1 ⟨x,H1,I1,r1,q1⟩=>aH (hb pz s1 σ H1 _ I1 q1) fun u s2 ⟨y,H2,I2,r2,q2⟩=>aH (ho pz s2 σ H2 x y v u _ I2 r1 r2 q2) fun c s3 ⟨z,H3,I3,r3,k,e,q3⟩=>?_) hm;subst e;cases r3;exact MK ⟨H3,I3,q3⟩
def xG(r r':R2)(ta tb tc:TE):TE:=fun σ H Q=>ta σ H fun x H1=>tb σ H1 fun y H2=>r x y H2 fun z H3=>∃k,z=.bl k /\(if k=true then tc σ H3 fun w' H4=>r' y w' H4 Q else Q (.bl false) H3)
theorem GU{op op':Rp}{r r':R2}(ho:aT X (KQ op) r)(ho':aT X (KQ op') r')(ha:PE X a ta)(hb:PE X b tb)(hc:PE X c tc)(hm:lastMarks [op,op'] [b,c]=false:=by with_unfolding_all rfl):PE X (.Compare a [op,op'] [b,c] pos) (xG r r' ta tb tc):=by intro pz s σ H Q I h;refine Compare_chain (aH (ha pz s σ H _ I h) fun v s1 ⟨x,H1,I1,r1,q1⟩=>chain_link (aH (hb pz s1 σ H1 _ I1 q1) fun u s2 ⟨y,H2,I2,r2,q2⟩=>aH (ho pz s2 σ H2 x y v u _ I2 r1 r2 q2) fun d s3 ⟨z,H3,I3,r3,k,e,q3⟩=>?_)) hm;subst e;cases r3;refine MK ?_;cases k with
|false=>exact ite_ff ⟨.bl false,H3,I3,rfl,q3⟩
|true=>exact ite_tt (chain_last (aH (hc pz s3 σ H3 _ I3 q3) fun w' s4 ⟨z',H4,I4,r4,q4⟩=>ho' pz s4 σ H4 y z' u w' Q I4 r2 r4 q4))
def kS(K:W.Frag)(x:V)(H:Hp)(k:Bool):Prop:=match x with
|.non=>k=false
|.bl b=>k=b
|.int i=>k=(i != 0)
|.str y=>y.length<=sizeLine/\k=((y.length:Int) != 0)
|.byt y=>y.size<=sizeLine/\k=((y.size:Int) != 0)
|.ref p=>(∃xs,aO K H p xs/\k = ! xs.isEmpty)\/(∃xs,bF K H p xs/\k = ! xs.isEmpty)\/∃kvs,Rd H p (.dK kvs)/\k = ! kvs.isEmpty
|_=>False
theorem Im{κ:Type}{kvs:List (κ×V)}{vs:List (κ×a_)}(r:KV kvs vs):(! vs.isEmpty) = ! kvs.isEmpty:=by cases r <;> rfl
theorem As{xs:List V}{its:List a_}(r:ak xs its):(! its.toArray.isEmpty) = ! xs.isEmpty:=by cases r <;> simp
theorem lu:(sizeLine:Nat)<2^63:=by rw[K1];decide
theorem DK:vX X (fun x H Q=>∃k,kS X.K x H k/\Q k H):=by intro pz s σ H x v Q I rx h;obtain⟨k,e,q⟩:=h;have hl:=lu;have hs:sizeLine=16777216:=K1;cases x with
|non=>cases rx;have e':k=false:=e;subst e';exact truthy_none ⟨H,I,q⟩
|bl b=>cases rx;have e':k=b:=e;subst e';exact MK ⟨H,I,q⟩
|int i=>obtain⟨t,rfl⟩:=rx;have e':k=(i != 0):=e;subst e';exact PySem.P.truthy_int ⟨H,I,q⟩
|str y=>obtain⟨t,rfl⟩:=rx;obtain⟨hy,e'⟩:y.length<=sizeLine/\k=((y.length:Int) != 0):=e;subst e';exact PySem.P.truthy_str (by omega) ⟨H,I.tok _,q⟩
|byt y=>obtain⟨t,rfl⟩:=rx;obtain⟨hy,e'⟩:y.size<=sizeLine/\k=((y.size:Int) != 0):=e;subst e';exact W.truthy_bytes (by omega) ⟨H,I.tok _,q⟩
|ref p=>
  cases rx;have e':(∃xs,aO X.K H p xs/\k = ! xs.isEmpty)\/(∃xs,bF X.K H p xs/\k = ! xs.isEmpty)\/∃kvs,Rd H p (.dK kvs)/\k = ! kvs.isEmpty:=e;rcases e' with⟨xs,hx,e'⟩|⟨xs,hx,e'⟩|⟨kvs,hx,e'⟩
  .subst e';obtain⟨its,r,pl,hz⟩:=I.list hx;have hlen:=r.length;exact wpAny_truthy_list pl.isList (by simp only[n_];omega) ⟨H,I.tok _,by rw[As r];exact q⟩
  .subst e';obtain⟨its,r,pl,hz⟩:=I.tuple hx;have hlen:=r.length;exact truthy_tuple pl (by simp only[n_];omega) ⟨H,I.tok _,by rw[As r];exact q⟩
  .subst e';obtain⟨hz,hS,vs,r,m⟩:kvs.length<=sizeLine/\(p==MA)=false/\∃vs,KV kvs vs/\s.heap.DictOf (eu X.prog X.w) p vs:=hx.ok I.hok;have hlen:kvs.length=vs.length:=Paired.length r;exact wpAny_truthy_dict hS m (by omega) ⟨H,I.tok _,by rw[Im r];exact q⟩
|_=>exact(show False from e).elim
theorem Ha(ha:PE X a ta)(he:∀whole,isTrue a X.env whole=(do let v <-whole;Rz a.pos;OI [v] (truthy v))):PT X a (fun σ H Q=>ta σ H fun x H'=>∃k,kS X.K x H' k/\Q k H'):=by intro pz s σ H Q I h;exact isTrue_plain (aH (ha pz s σ H _ I h) fun v s1 ⟨x,H1,I1,r1,q1⟩=>DK pz s1 σ H1 x v Q I1 r1 q1) (he _)
theorem AM:aT X (ME .Add) (fun x y H Q=>∃i j,x=.str i/\y=.str j/\i.length+j.length<=sizeLine/\Q (.str (i++j)) H):=by intro pz s σ H x y v u Q I rx ry h;obtain⟨i,j,rfl,rfl,hz,q⟩:=h;obtain⟨t,rfl⟩:=rx;obtain⟨t',rfl⟩:=ry;exact add_str (fun t' tk=>⟨.str (i++j),H,I.tok _,⟨_,rfl⟩,q⟩) hz
theorem fN{x:V}{us:List a_}(r:ak [x] us):∃u,us=[u]/\aq x u:=by cases r with
|cons r1 r2=>cases r2;exact⟨_,rfl,r1⟩
theorem wX{x y:V}{us:List a_}(r:ak [x,y] us):∃u w',us=[u,w']/\aq x u/\aq y w':=by cases r with
|cons r1 r2=>cases r2 with
 |cons r3 r4=>cases r4;exact⟨_,_,rfl,r1,r3⟩
def nQ(K:W.Frag)(x:V)(H:Hp)(n:Nat):Prop:=match x with
|.str y=>y.length<=sizeLine/\n=y.length
|.byt y=>y.size<=sizeLine/\n=y.size
|.ref p=>(∃xs,aO K H p xs/\n=xs.length)\/∃xs,bF K H p xs/\n=xs.length
|_=>False
theorem F6:dW X (.builtin "len") (fun xs H Q=>∃x n,xs=[x]/\nQ X.K x H n/\Q (.int n) H):=by intro pz s σ H xs us Q I r h;obtain⟨x,n,rfl,e,q⟩:=h;obtain⟨u,rfl,rx⟩:=fN r;have hl:=lu;have hs:sizeLine=16777216:=K1;cases x with
|str y=>obtain⟨t,rfl⟩:=rx;obtain⟨hy,e'⟩:y.length<=sizeLine/\n=y.length:=e;subst e';exact len_str (by omega) ⟨.int _,H,I.tok _,⟨_,rfl⟩,q⟩
|byt y=>obtain⟨t,rfl⟩:=rx;obtain⟨hy,e'⟩:y.size<=sizeLine/\n=y.size:=e;subst e';exact W.len_bytes (by omega) ⟨.int _,H,I.tok _,⟨_,rfl⟩,q⟩
|ref p=>
  cases rx;have e':(∃xs,aO X.K H p xs/\n=xs.length)\/∃xs,bF X.K H p xs/\n=xs.length:=e;rcases e' with⟨xs,hx,e'⟩|⟨xs,hx,e'⟩
  .subst e';obtain⟨its,r',pl,hz⟩:=I.list hx;have hlen:=r'.length;exact Calls.call_len_list pl.isList (by simp only[n_];omega) ⟨.int xs.length,H,I.tok _,⟨_,by simp only[n_];rw[hlen]⟩,q⟩
  .subst e';obtain⟨its,r',pl,hz⟩:=I.tuple hx;have hlen:=r'.length;exact len_tuple pl (by simp only[n_];omega) ⟨.int xs.length,H,I.tok _,⟨_,by simp only[n_];rw[hlen]⟩,q⟩
|_=>exact(show False from e).elim
end
structure ObjM(h:Heap)(x dx C:Addr)(mA:Str->Option a_):Prop where
 obj:h.get? x=some (W.instObj C dx)
 ns:h.Ns1 dx mA
 ne:dx≠x
def putF(f:Str)(v:V):List (Str×V)->List (Str×V)
|[]=>[(f,v)]
|(g,x)::r=>if g=f then(g,v)::r else(g,x)::putF f v r
theorem cF.some_of{v:V}{o:Option a_}(r:cF (some v) o):∃u,o=some u/\aq v u:=by cases o with
|none=>exact(show False from r).elim
|some u=>exact⟨u,rfl,r⟩
theorem cF.none_of{o:Option a_}(r:cF none o):o=none:=by cases o with
|none=>rfl
|some u=>exact(show False from r).elim
structure Cls(K:W.Frag)(C:Addr):Prop where
 pg:W.plainGet K C Str.empty=true
 hd:W.hasDictIn K C=true
 po:W.plainOver K C=true
 sa:W.findIn K (.ref C) "__setattr__" = some (some (.builtin "object.__setattr__"))
theorem Cls.get{K:W.Frag}{C:Addr}(c:Cls K C)(f:Str):W.plainGet K C f=true:=c.pg
structure Con(K:W.Frag)(C:Addr)(f:Str)(v:V)(u:a_):Prop where
 at_:W.findIn K (.ref C) f=some (some u)
 rel:aq v u
 get:W.specialIn K u "__get__" = some none
 cp:W.copiedNames.contains f=false
structure Meth(K:W.Frag)(C:Addr)(m:Str)(f:Addr):Prop where
 at_:W.findIn K (.ref C) m=some (some (.ref f))
 fn:W.isFn K (.ref f)=true
 kp:W.keepIn K (.ref f)=true
section
variable{X:Cx}{pz:List (Addr×Obj)}{σ:St}{H:Hp}{s:f_}{a C dx:Addr}{fs:List (Str×V)}{f:Str}{v:V}{A:KM}{E:a_->f_->Prop}
theorem Inv.made(I:Inv X pz σ H s):Inv X pz σ (upd (upd H s.heap.objs.size (.own (s.heap.objs.size+1))) (s.heap.objs.size+1) (.ins C s.heap.objs.size []))
  { s with heap:=(s.heap.push W.emptyDict).push (W.instObj C s.heap.objs.size) }:=by
 have e1:(s.heap.push W.emptyDict).get? s.heap.objs.size=some W.emptyDict:=y_ s.heap rfl;have e2:((s.heap.push W.emptyDict).push (W.instObj C s.heap.objs.size)).get? (s.heap.objs.size+1)=some (W.instObj C s.heap.objs.size):=by have:=y_ (s.heap.push W.emptyDict) (o:=W.instObj C s.heap.objs.size) rfl;rwa[Lo]at this
 have e3:(s.heap.push W.emptyDict).Ns s.heap.objs.size (fun _=>none):=⟨W.emptyDict,#[],_,e1,rfl,(fun e he=>absurd he (by simp)),fun _=>rfl⟩
 have I1:=I.laid (a:=s.heap.objs.size) (o:=.own (s.heap.objs.size+1)) (h':=s.heap.push W.emptyDict) (t':=s.toks) (fun b u q=>e_ _ q) (q_ _) ⟨_,e1⟩;refine I1.laid (a:=s.heap.objs.size+1) (o:=.ins C s.heap.objs.size []) (t':=s.toks) (fun b u q=>e_ _ q) (Nf (Lo _ _)) ?_;have ne:s.heap.objs.size≠s.heap.objs.size+1:=D_ (Mt _);refine⟨by rw[bg ne,bO],KN _,ne,e2,fun _=>none,(Heap.Ns1.of_empty e3).at fun o q=>e_ _ q,fun _=>True.intro,fun y hy=>absurd rfl hy⟩
end
section
variable{X:Cx}{pz:List (Addr×Obj)}{σ:St}{H:Hp}{s:f_}{A:KM}{E:a_->f_->Prop}{Q:a_->f_->Prop}{c:a_}{b:Bool}
inductive TyOf(K:W.Frag)(H:Hp):V->a_->Prop where
 |non:TyOf K H .non (.type "NoneType")
 |bl (x:Bool):TyOf K H (.bl x) (.type "bool")
 |int (i:Int):TyOf K H (.int i) (.type "int")
 |str (x:Str):TyOf K H (.str x) (.type "str")
 |flt (x:UInt64):TyOf K H (.flt x) (.type "float")
 |lst {a:Addr} {xs:List V} (e:H a=some (.lst xs)):TyOf K H (.ref a) (.type "list")
 |frz {a:Addr} {o:Obj} {xs:List V} (e:H a=some (.frz o (.lst xs))):TyOf K H (.ref a) (.type "list")
 |tup {a:Addr} {xs:List V} (e:H a=some (.tup xs)):TyOf K H (.ref a) (.type "tuple")
 |dK {a:Addr} {kvs:List (au×V)} (e:H a=some (.dK kvs)):TyOf K H (.ref a) (.type "dict")
 |dT {a:Addr} {kvs:List (List au×V)} (e:H a=some (.dT kvs)):TyOf K H (.ref a) (.type "dict")
 | ins {a C dx:Addr} {fs:List (Str × V)} (e:H a=some (.ins C dx fs)) (cl:Cls K C) (ha:W.findIn K (.ref C) "__class__" = some (some (.builtin "object.__class__")))
   (hn:W.specialIn K (.builtin "object.__class__") "__get__" = some (some (.builtin "getset_descriptor.__get__"))) (htk:W.takesIn K (.builtin "object.__class__")=some true)
   (hm:W.mroIn K C (.type "object")=some true):TyOf K H (.ref a) (.ref C)
end
structure Room(k:Nat)(A:KM):Prop where
 hd:A.handled=none
 dp:A.depth+3*k+5<recursionLimit
 un:A.units+16*k+200<Mq
 gd:A.guards=some []
theorem Room.mono{j k:Nat}{A:KM}(r:Room k A)(h:j<=k):Room j A:=⟨r.hd,by have:=r.dp;omega,by have:=r.un;omega,r.gd⟩
theorem Room.deeper{k:Nat}{A:KM}(r:Room (k+1) A)(env:Env):Room k (A.deeper env):=⟨r.hd,by have:=r.dp;show A.depth+1+3*k+5<_;omega,by have:=r.un;show A.units+3+16*k+200<_;omega,r.gd⟩
theorem Room.in1{k:Nat}{A:KM}(r:Room (k+1) A):Room k A.in1:=⟨r.hd,by have:=r.dp;show A.depth+3*k+5<_;omega,by have:=r.un;show A.units+1+16*k+200<_;omega,r.gd⟩
theorem Io{A:KM}{C:Addr}{us:List a_}{kw:List (Str×a_)}:(A.under (.builtin "type.__call__" ⟨.ref C::us,kw⟩)).depth=A.depth+1:=by first|rfl|simp[OJ,Code.weight,Code.isCreation,RA,Code.isCaller,RU,PR,guardIds]
theorem Ip{A:KM}{C:Addr}{us:List a_}{kw:List (Str×a_)}:(A.under (.builtin "type.__call__" ⟨.ref C::us,kw⟩)).units=A.units+1:=by first|rfl|simp[OJ,Code.cUnits,RU,PR]
theorem Room.make{k:Nat}{A:KM}(r:Room (k+1) A)(C:Addr)(us:List a_)(kw:List (Str×a_)):Room k (A.under (.builtin "type.__call__" ⟨.ref C::us,kw⟩)):=⟨r.hd,by have:=r.dp;rw[Io];omega,by have:=r.un;rw[Ip];omega,(by have:=r.gd;first|exact this|(simp[OJ,RA,guardIds];exact this))⟩
theorem Room.depth{k:Nat}{A:KM}(r:Room k A):A.depth<recursionLimit:=by have:=r.dp;omega
theorem Room.units{k:Nat}{A:KM}(r:Room k A):A.units+64<Mq:=by have:=r.un;omega
def uZ:TA:=fun _ H Q=>Q [] H
def BQ(ta:TE)(tr:TA):TA:=fun σ H Q=>ta σ H fun x H1=>tr σ H1 fun xs H2=>Q (x::xs) H2
section
variable{X:Cx}{e:Expr}{es:List Expr}{te:TE}{t:TA}{pos:Pos}
theorem iU:PA X [] uZ:=fun _ _ _ _ H Q I h=>PU ⟨[],H,I,.nil,h⟩
theorem gb(ha:PE X e te)(hr:PA X es t)(hs:m_ (e::es) X.env=(false,eval e X.env)::m_ es X.env:=by rfl):PA X (e::es) (BQ te t):=by intro pos pz s σ H Q I h;rw[hs];show C_ _ _ (Rw ((false,eval e X.env)::backTo pos (m_ es X.env))) _ _ s;refine PC (aH (ha pz s σ H _ I h) fun u s1 ⟨x,H1,I1,r1,q1⟩=>?_);exact aH (hr pos pz s1 σ H1 _ I1 q1) fun us s2 ⟨xs,H2,I2,r2,q2⟩=>⟨x::xs,H2,I2,.cons r1 r2,q2⟩
def uV(t:TA):TE:=fun σ H Q=>t σ H fun xs H1=>xs.length<=sizeLine/\∀p,H1 p=none->Q (.ref p) (upd H1 p (.tup xs))
def vA(t:TA):TE:=fun σ H Q=>t σ H fun xs H1=>xs.length<=sizeLine/\∀p,H1 p=none->Q (.ref p) (upd H1 p (.lst xs))
theorem DU{x1}(h:PA X es t):PE X (.Tuple es x1 pos) (uV t):=by intro pz s σ H Q I hq;refine wpAny_Tuple_spliced (aH (h pos pz s σ H _ I hq) fun us s1 ⟨xs,H1,I1,r,z,q⟩=>⟨by rw[<-r.length];exact z,?_⟩);have hf:H1 s1.heap.objs.size=none:=I1.hok.fresh (q_ _);refine⟨.ref s1.heap.objs.size,upd H1 s1.heap.objs.size (.tup xs),I1.laid (t':=s1.toks) (fun b u e=>e_ _ e) (q_ _) ?_,rfl,q _ hf⟩;exact⟨z,us,r,⟨_,y_ _ rfl,rfl,_,rfl⟩,_,y_ _ rfl,rfl⟩
theorem Ej(h:PA X es t):PE X (.List es pos) (vA t):=by intro pz s σ H Q I hq;refine wpAny_List_spliced (aH (h pos pz s σ H _ I hq) fun us s1 ⟨xs,H1,I1,r,z,q⟩=>⟨by rw[<-r.length];exact z,?_⟩);have hf:H1 s1.heap.objs.size=none:=I1.hok.fresh (q_ _);refine⟨.ref s1.heap.objs.size,upd H1 s1.heap.objs.size (.lst xs),I1.laid (t':=s1.toks) (fun b u e=>e_ _ e) (q_ _) ?_,rfl,q _ hf⟩;exact⟨z,us,0,r,y_ _ rfl⟩
end
abbrev Sp:=List V->Hp->VK->XK->Prop
abbrev fZ:=List Env->Hp->f_->XK->a_->f_->Prop
structure Env0(P:E_)(w:Kz)(K:W.Frag)(mg:Str->Option a_)(base:Heap)(A:KM)(outer:List Env)(s:f_)(H:Hp):Prop where
 frames:A.frames=some outer
 mod:Mod K mg base
 bs:∀b o,base.get? b=some o->s.heap.get? b=some o/\H b=none
 bsz:base.objs.size<=s.heap.objs.size
 funs:s.heap.FunFrames base outer
 frf:∀b∈di outer,H b=none
 hok:cn P w H s.heap
 bare:Nt s.gens
def CE(outer:List Env)(P:E_)(w:Kz)(H:Hp)(s:f_)(Q:VK)(u:a_)(s':f_):Prop:=∃v H',s'.os=s.os/\Nt s'.gens/\Un (di outer) [] H H' s.heap s'.heap/\cn P w H' s'.heap/\aq v u/\Q v H'
def CR(CX:fZ)(outer:List Env)(P:E_)(w:Kz)(H:Hp)(s:f_)(Q:VK)(E:XK)(r:QJ)(s':f_):Prop:=match r with
|.ok (.ret u)=>CE outer P w H s Q u s'
|.ok _=>False
|.error e=>CX outer H s E e s'
structure FnOk(P:E_)(w:Kz)(K:W.Frag)(mg:Str->Option a_)(base:Heap)(CX:fZ)(k:Nat)(f:Addr)(fd:LK)(ps:List Str)(sp:Sp):Prop where
 len:∀vs H Q E,sp vs H Q E->vs.length=ps.length
 run:∀(A:KM)(outer:List Env)(s:f_)(H:Hp)(args:Args)(us:List a_)(vs:List V)(Q:VK)(E:XK),Room k A->Env0 P w K mg base A outer s H->Po s fd args (ps.zip us)->ak vs us->sp vs H Q E ->NN (H_ P w) A (.call (.ref f) args) (CR CX outer P w H s Q E) s
theorem FnOk.mono{P:E_}{w:Kz}{K:W.Frag}{mg:Str->Option a_}{base:Heap}{CX:fZ}{j k:Nat}{f:Addr}{fd:LK}{ps:List Str}{sp:Sp}(F:FnOk P w K mg base CX j f fd ps sp)(h:j<=k):FnOk P w K mg base CX k f fd ps sp:=⟨F.len,fun A outer s H args us vs Q E hr=>F.run A outer s H args us vs Q E (hr.mono h)⟩
theorem FnOk.imp{P:E_}{w:Kz}{K:W.Frag}{mg:Str->Option a_}{base:Heap}{CX:fZ}{k:Nat}{f:Addr}{fd:LK}{ps:List Str}{sp sp':Sp}(F:FnOk P w K mg base CX k f fd ps sp)(h:∀vs H Q E,sp' vs H Q E->sp vs H Q E):FnOk P w K mg base CX k f fd ps sp':=⟨fun vs H Q E q=>F.len vs H Q E (h _ _ _ _ q),fun A outer s H args us vs Q E hr he hb hv hs=>F.run A outer s H args us vs Q E hr he hb hv (h _ _ _ _ hs)⟩
theorem Env0.make{P:E_}{w:Kz}{K:W.Frag}{mg:Str->Option a_}{base:Heap}{A:KM}{outer:List Env}{s:f_}{H:Hp}(e:Env0 P w K mg base A outer s H)(C:Addr)(us:List a_)(kw:List (Str×a_)):Env0 P w K mg base (A.under (.builtin "type.__call__" ⟨.ref C::us,kw⟩)) outer s H:=⟨by first|exact e.frames|(simpa[OJ,Code.envs,PR,pushEnvs]using e.frames),e.mod,e.bs,e.bsz,e.funs,e.frf,e.hok,e.bare⟩
theorem Env0.in1{P:E_}{w:Kz}{K:W.Frag}{mg:Str->Option a_}{base:Heap}{A:KM}{outer:List Env}{s:f_}{H:Hp}(e:Env0 P w K mg base A outer s H):Env0 P w K mg base A.in1 outer s H:=⟨e.frames,e.mod,e.bs,e.bsz,e.funs,e.frf,e.hok,e.bare⟩
section
variable{X:Cx}{pz:List (Addr×Obj)}{σ:St}{H:Hp}{s s':f_}
theorem Inv.env0(I:Inv X pz σ H s):Env0 X.prog X.w X.K X.mg X.base X.A X.stack s H:=⟨I.ok.frames,I.ok.mod,I.bs,KF I.ok.bsz I.sz,I.stack,I.stkFree,I.hok,I.bare⟩
theorem Inv.after{Q:VK}{u:a_}(I:Inv X pz σ H s)(h:CE X.stack X.prog X.w H s Q u s'):EP X pz σ Q u s':=by obtain⟨v,H',os,bare,un,hok,r,q⟩:=h;obtain⟨hh,g,d,t,os'⟩:=s';obtain rfl:os'=s.os:=os;exact⟨v,H',I.call (h':=hh) (g':=g) (d':=d) (t':=t) (ch:=[]) un hok bare (fun b z=>absurd z (by simp)),r,q⟩
end
def BP(sp:Sp)(dvs:List V)(E:XK)(t:TA):TE:=fun σ H Q=>t σ H fun vs H1=>sp (vs++dvs) H1 Q E
def gE(K:W.Frag)(fd:LK)(ps:List Str)(ds:List a_):Prop:=∀(s:f_)(us:List a_),K.In s.heap->(us++ds).length=ps.length->Po s fd ⟨us,[]⟩ (ps.zip (us++ds))
theorem gE.all{K:W.Frag}{fd:LK}{ps:List Str}(h:∀us:List a_,us.length=ps.length->Pd fd ⟨us,[]⟩=pure (ps.zip us)):gE K fd ps []:=fun s us _ hl=>by rw[KA]at hl ⊢;exact .of_eq (h us hl)
def qR(CX:fZ)(X:Cx)(E:XK):Prop:=∀(pz:List (Addr×Obj))(σ:St)(H:Hp)(s:f_)(e:a_)(s':f_),Inv X pz σ H s->CX X.stack H s E e s'->X.xe e s'
section
variable{X:Cx}{CX:fZ}{k:Nat}{f C:Addr}{fd:LK}{ps:List Str}{sp:Sp}{dvs:List V}{ds:List a_}{E:XK}{x m:Str}{p pos apos:Pos}{e o:Expr}{es:List Expr}{ta:TE}{t:TA}
theorem Ea{pz:List (Addr×Obj)}{σ:St}{H:Hp}{s:f_}{Q:VK}{us:List a_}{vs:List V}(F:FnOk X.prog X.w X.K X.mg X.base CX k f fd ps sp)(hr:Room k X.A)(hb:gE X.K fd ps ds)(hd:ak dvs ds)(hx:qR CX X E)(I:Inv X pz σ H s)(r:ak vs us)(h:sp (vs++dvs) H Q E):C_ (H_ X.prog X.w) X.A (call (.ref f) us) (EP X pz σ Q) X.xe s:=by
 have r2:ak (vs++dvs) (us++ds):=r.append hd;have hl:(us++ds).length=ps.length:=by rw[<-r2.length];exact F.len _ _ _ _ h
 refine wpAny_call (PV (F.run X.A X.stack s H ⟨us,[]⟩ (us++ds) (vs++dvs) Q E hr I.env0 (hb s us I.kIn hl) r2 h) fun r s' hq=>?_);cases r with
|error e=>exact hx pz σ H s e s' I hq
|ok fl=>cases fl with
 |ret u=>exact I.after hq
 |next=>exact L7 hq
 |brk=>exact L7 hq
 |cont=>exact L7 hq
theorem rB(F:FnOk X.prog X.w X.K X.mg X.base CX k f fd ps sp)(hr:Room k X.A)(hg:Gl X x)(hm:X.mg x=some (.ref f))(hk:W.keepIn X.K (.ref f)=true)(hb:gE X.K fd ps ds)(hd:ak dvs ds)(hx:qR CX X E)(ha:PA X (e::es) t)(hdb:(x==("__debug__" : Str))=false:=by decide)(he:m_ (e::es) X.env=(false,eval e X.env)::m_ es X.env:=by rfl)(hpl:(backTo pos (m_ es X.env)).any (·.1)=false:=by rfl):PE X (.Call (.Name x p) (e::es) [] pos) (BP sp dvs E t):=by intro pz s σ H Q I h;refine MB (En I hg hm ?_ hdb);refine W.callWith_K (h₀:=X.base) I.ok.mod.kin hk (aH (ha pos pz s σ H _ I h) fun us s1 ⟨vs,H1,I1,r,q⟩=>⟨I1.kIn,?_⟩) he hpl;exact Ea F hr hb hd hx I1 r q
structure Mk(K:W.Frag)(C f:Addr):Prop where
 makes:W.makesIn K C=true
 init:W.findIn K (.ref C) "__init__" = some (some (.ref f))
 fn:W.isFn K (.ref f)=true
 kp:W.keepIn K (.ref C)=true
end
section
variable{X:Cx}{CX:fZ}{k:Nat}{f C:Addr}{fd:LK}{ps ks:List Str}{sp:Sp}{E:XK}{x m:Str}{p pos apos kpos:Pos}{e o:Expr}{es:List Expr}{kws:List Nu}{te ta:TE}{t tk:TA}{nm:Option Str}
structure KBinds(K:W.Frag)(fd:LK)(ps ks:List Str)(g:List a_->List a_->List a_)(gV:List V->List V->List V):Prop where
 to:∀(s:f_)(us ws:List a_),K.In s.heap->(g us ws).length=ps.length->Po s fd ⟨us,ks.zip ws⟩ (ps.zip (g us ws))
 rel:∀{vs:List V}{us:List a_}{zs:List V}{ws:List a_},ak vs us->ak zs ws->ak (gV vs zs) (g us ws)
variable{g:List a_->List a_->List a_}{gV:List V->List V->List V}
end
structure FnScope(N P:List Str)(sc:MO):Prop where
 kind:sc.kind=.function
 co:sc.isCoroutine=false
 gen:sc.isGenerator=false
 nd:N.Nodup
 pre:N.take P.length=P
 par:∀x∈P,sc.names.lookup x=some .local\/sc.names.lookup x=some .cell
 nofree:∀y∈sc.names,y.2≠.free
theorem Af{kindOf:Str->Option MP}{x:Str}:∀{binds:List (Str×a_)}{m:Str->Option a_},(∀v,(x,v)∉binds)->QK kindOf binds m x=m x
|[],_,_=>rfl
|(n,v)::r,m,h=>by
  unfold QK;rw[Af fun w hw=>h w (k_ _ hw)];split
  .have:x≠n:=by rintro rfl;exact h v j_
   simp[this]
  .rfl
theorem Ad{kindOf:Str->Option MP}{x:Str}:∀{binds:List (Str×a_)}{m:Str->Option a_},(∀v,(x,v)∉binds)->QL kindOf binds m x=m x
|[],_,_=>rfl
|(n,v)::r,m,h=>by
  unfold QL;rw[Ad fun w hw=>h w (k_ _ hw)];split
  .rfl
  .have:x≠n:=by rintro rfl;exact h v j_
   simp[this]
theorem Ae{kindOf:Str->Option MP}{x:Str}{v:a_}:∀{P:List Str}{vs:List a_}{i:Nat}{m:Str->Option a_},P.Nodup->P[i]? = some x->vs[i]? = some v->kindOf x=some .local ->QK kindOf (P.zip vs) m x=some v
|[],_,_,_,_,h,_,_=>by simp at h
|_::_,[],_,_,_,_,h,_=>by simp at h
|p::P,w::vs,0,m,nd,h1,h2,hk=>by simp at h1 h2;subst h1;subst h2;show QK kindOf ((p,w)::P.zip vs) m p=_;unfold QK;rw[Af fun v hv=>(KW.mp nd).1 (O4 hv).1,if_pos hk];simp
|p::P,w::vs,i+1,m,nd,h1,h2,hk=>by show QK kindOf ((p,w)::P.zip vs) m x=_;unfold QK;exact Ae (i:=i) (KW.mp nd).2 (by simpa using h1) (by simpa using h2) hk
theorem Ac{kindOf:Str->Option MP}{x:Str}{v:a_}:∀{P:List Str}{vs:List a_}{i:Nat}{m:Str->Option a_},P.Nodup->P[i]? = some x->vs[i]? = some v->kindOf x≠some .local ->QL kindOf (P.zip vs) m x=some v
|[],_,_,_,_,h,_,_=>by simp at h
|_::_,[],_,_,_,_,h,_=>by simp at h
|p::P,w::vs,0,m,nd,h1,h2,hk=>by simp at h1 h2;subst h1;subst h2;show QL kindOf ((p,w)::P.zip vs) m p=_;unfold QL;rw[Ad fun v hv=>(KW.mp nd).1 (O4 hv).1,if_neg hk];simp
|p::P,w::vs,i+1,m,nd,h1,h2,hk=>by show QL kindOf ((p,w)::P.zip vs) m x=_;unfold QL;exact Ac (i:=i) (KW.mp nd).2 (by simpa using h1) (by simpa using h2) hk
def bA(N:List Str)(vs:List V):St:=vs.map some++K2 (N.length-vs.length) none
def aS(CX:fZ)(P:E_)(w:Kz)(K:W.Frag)(mg:Str->Option a_)(base:Heap)(N:List Str)(qual:Str)(scope:MO)(f:Addr)(cd:a_)(A:KM)(outer:List Env)(s:f_)(H:Hp)(E:XK):Cx where
 prog:=P
 w:=w
 K:=K
 mg:=mg
 base:=base
 A:=A.deeper (Np qual scope s.heap.objs.size f cd)
 N:=N
 s₀:=s
 H₀:=H
 env:=Np qual scope s.heap.objs.size f cd
 outer:=outer
 stack:=Np qual scope s.heap.objs.size f cd::outer
 ex:=[]
 calm:=true
 fn:=fun _=>true
 pn:=[]
 xe:=fun e s'=>C_ (H_ P w) (A.deeper (Np qual scope s.heap.objs.size f cd)) (leaving (Np qual scope s.heap.objs.size f cd) e) (fun _ s''=>CX outer H s E e s'') (fun e' s''=>CX outer H s E e' s'') s'
theorem zh{sc:MO}{n:Nat}{x:Str}(h:sc.names.lookup x=some .cell):∃c,(Rq n sc.names []).lookup x=some c:=by have q:=W.cellsFrom_some sc.names n [] (.inl h);exact Option.isSome_iff_exists.mp q
theorem HQ{CX:fZ}{P:E_}{w:Kz}{K:W.Frag}{mg:Str->Option a_}{base:Heap}{N ps:List Str}{qual:Str}{scope:MO}{f:Addr}{cd:a_}{A:KM}{outer:List Env}{s s1:f_}{H:Hp}{E:XK}{us:List a_}{vs:List V}(S:FnScope N ps scope)(hd:A.handled=none)(e0:Env0 P w K mg base A outer s H)(hl:vs.length=ps.length)(r:ak vs us)(x:InCallC s s.heap.objs.size (QK (Np qual scope s.heap.objs.size f cd).kindOf (ps.zip us) fun _=>none) (Rq (s.heap.objs.size+1) scope.names []) (QL (Np qual scope s.heap.objs.size f cd).kindOf (ps.zip us) fun _=>none) s1):Inv (aS CX P w K mg base N qual scope f cd A outer s H E) [] (bA N vs) H s1:=by
 have hpl:ps.length<=N.length:=by have:=congrArg Qp S.pre;rw[K5]at this;omega
 obtain⟨h1,tk,rfl,hk⟩:=x.done;have noA:∀b:Addr,b∉(aS CX P w K mg base N qual scope f cd A outer s H E).ex:=fun b z=>absurd (show b∈([]:List Addr)from z) (by simp);refine⟨⟨e0.mod,S.kind,rfl,rfl,q_ _,fun y z c h1 h2=>?_,fun y hy=>?_,fun y c _ h=>?_,fun _=>hd,Around.frames_deeper e0.frames,.inr ⟨rfl,rfl⟩,fun b z=>absurd z (noA b),e0.bs,e0.bsz,fun b _ _=>noA b,fun b z=>absurd z (noA b),e0.funs,e0.frf⟩,rfl,e0.bare,Un.kept hk,⟨_,x.toInCall.ns,fun i y v h1 h2 h3=>?_⟩,fun y c h=>⟨_,x.cell y c h⟩,e0.hok.fresh (q_ _),fun y c h=>?_,fun p hp=>absurd (show p∈([]:List (Addr×Obj))from hp) (by simp),e0.hok.kept hk,?_⟩
 .exact name_of_addr x.apart (LH h1) (LH h2)
 .have hy:scope.names.lookup y=some .cell\/scope.names.lookup y=some .free:=hy;rcases hy with hy|hy
  .exact zh hy
  .exact absurd rfl (S.nofree _ (LH hy))
 .exact Nd (x.above y c (LH h))
 .have hi:i<vs.length:=by
   unfold bA at h2;by_cases hi:i<vs.length
   .exact hi
   .rw[Lg (by simpa using hi)]at h2;rw[Lw]at h2;split at h2 <;> cases h2
  have ha:vs[i]? = some v:=by unfold bA at h2;rw[J_ (by simpa using hi),x_]at h2;cases e:vs[i]? with
  |none=>rw[e]at h2;cases h2
  |some a=>rw[e]at h2;cases h2;rfl
  obtain⟨u,hu,rv⟩:=r.get ha;have hp:ps[i]? = some y:=by rw[<-S.pre,List.getElem?_take_of_lt (by omega)];exact h1
  have ndP:ps.Nodup:=by rw[<-S.pre];exact S.nd.sublist (PX _ _)
  refine⟨u,rv,?_⟩;rcases S.par y (Lh hp)with k|k
  .exact .inl ⟨k,Ae ndP hp hu k⟩
  .obtain⟨c,e⟩:=zh (n:=s.heap.objs.size+1) k;refine .inr ⟨.inl k,c,e,?_⟩;have q:=x.cell y c e;rw[Ac ndP hp hu (by show scope.names.lookup y≠_;rw[k];decide)]at q;exact q
 .exact e0.hok.fresh (Nd (x.above y c (LH h)))
 .unfold bA;show _=N.length;rw[I_,l_,L_];omega
theorem wA{CX:fZ}{P:E_}{w:Kz}{K:W.Frag}{mg:Str->Option a_}{base:Heap}{k:Nat}{f:Addr}{name qual:Str}{params:Arguments}{body:List Stmt}{scope:MO}{dV kV doc pm cdv ct oc:a_}{an od:Option Addr}{osl:Array (Option a_)}{N ps:List Str}{sp:Sp}(lk:K.lookup f=some ⟨oc,od,.func (W.fnOf name qual params body scope dV kV doc pm an cdv ct),osl⟩)(hcd:W.codeIn K cdv qual=true)(S:FnScope N ps scope)(len:∀vs H Q E,sp vs H Q E->vs.length=ps.length)(hbody:∀(A:KM)(outer:List Env)(s:f_)(H:Hp)(vs:List V)(Q:VK)(E:XK),Room k (A.deeper (Np qual scope s.heap.objs.size f cdv))->sp vs H Q E ->∃t,dU (aS CX P w K mg base N qual scope f cdv A outer s H E) body t/\t { nx:=fun _ H'=>Q .non H',rt:=Q } (bA N vs) H):FnOk P w K mg base CX (k+1) f (W.fnOf name qual params body scope dV kV doc pm an cdv ct) ps sp:=by
 refine⟨len,fun A outer s H args us vs Q E hr e0 hb r hsp=>?_⟩;have hl:=len _ _ _ _ hsp;have KX:K.In s.heap:=e0.mod.kin.keeps fun b o e=>(e0.bs b o e).1;have lim:s.heap.NoLimit:=e0.mod.nolimit.keeps fun b o e=>(e0.bs b o e).1;have hkind:∀y∈ps.zip us,scope.names.lookup y.1=some .local\/(scope.names.lookup y.1=some .cell/\((Rq (s.heap.objs.size+1) scope.names []).lookup y.1).isSome=true):=fun⟨n,v⟩ hy=>by
  rcases S.par n (O4 hy).1 with q|q
  .exact .inl q
  .exact .inr ⟨q,W.cellsFrom_some _ _ _ (.inl q)⟩
 refine codeAny_call_function hr.depth (KX _ _ lk) rfl S.co S.gen rfl (W.codeRec_of KX hcd) (hb _ _ _ _ ?_);refine wpAny_newFunctionEnv_cells S.kind hkind fun env he s1 x=>?_;subst he;refine⟨lim.keeps x.toInCall.keep,codeAny_func ?_⟩;obtain⟨t,ht,hq⟩:=hbody A outer s H vs Q E (hr.deeper _) hsp;have I:Inv (aS CX P w K mg base N qual scope f cdv A outer s H E) [] (bA N vs) H s1:=HQ S hr.hd e0 hl r x;refine LW (ht [] s1 (bA N vs) H _ I hq) (fun fl s' hs=>?_) fun e s' hs=>hs;have fin:∀{σ':St}{H':Hp}{v:V}{u:a_},Inv (aS CX P w K mg base N qual scope f cdv A outer s H E) [] σ' H' s'->aq v u->Q v H'->CE outer P w H s Q u s':=fun{σ' H' v u} J rv q=>⟨v,H',J.os,J.bare,J.base,J.hok,rv,q⟩
 cases fl with
|ret u=>obtain⟨v,σ',H',J,rv,q⟩:=hs;exact fin J rv q
|next=>obtain⟨σ',H',J,q⟩:=hs;exact fin (v:=V.non) (u:=Value.none) J rfl q
|brk=>obtain⟨_,_,_,q⟩:=hs;exact L7 q
|cont=>obtain⟨_,_,_,q⟩:=hs;exact L7 q
section
variable{X:Cx}{x:Str}{p pos:Pos}{e:Expr}{es:List Expr}{t:TA}{id T:String}{r:List V->Hp->VK->Prop}
def qk(r:List V->Hp->VK->Prop)(t:TA):TE:=fun σ H Q=>t σ H fun vs H1=>r vs H1 Q
theorem mV(hc:dW X (.builtin id) r)(hg:Gl X x)(hm:X.mg x=none)(hv:MT x=some (.builtin id))(ha:PA X (e::es) t)(hn:x≠"__name__" := by decide)(hdb:(x==("__debug__" : Str))=false:=by decide)(he:m_ (e::es) X.env=(false,eval e X.env)::m_ es X.env:=by rfl)(hpl:(backTo pos (m_ es X.env)).any (·.1)=false:=by rfl):PE X (.Call (.Name x p) (e::es) [] pos) (qk r t):=by intro pz s σ H Q I h;refine MB (jy I hg hm hv ?_ hn hdb);exact Qc (aH (ha pos pz s σ H _ I h) fun us s1 ⟨vs,H1,I1,r1,q1⟩=>hc pz s1 σ H1 vs us Q I1 r1 q1) he hpl
theorem m4(hc:dW X (.type T) r)(hg:Gl X x)(hm:X.mg x=none)(hv:MT x=some (.type T))(ha:PA X (e::es) t)(hn:x≠"__name__" := by decide)(hdb:(x==("__debug__" : Str))=false:=by decide)(he:m_ (e::es) X.env=(false,eval e X.env)::m_ es X.env:=by rfl)(hpl:(backTo pos (m_ es X.env)).any (·.1)=false:=by rfl):PE X (.Call (.Name x p) (e::es) [] pos) (qk r t):=by intro pz s σ H Q I h;refine MB (jy I hg hm hv ?_ hn hdb);exact Lf (aH (ha pos pz s σ H _ I h) fun us s1 ⟨vs,H1,I1,r1,q1⟩=>hc pz s1 σ H1 vs us Q I1 r1 q1) he hpl
end
end L2
namespace HT
open PySem PyProof.Rows
def bC:List Int->List Int->Bool
|[],[]=>false
|[],_::_=>true
|_::_,[]=>false
|x::xs,y::ys=>if x=y then bC xs ys else decide (x<y)
theorem de(x y:Int)(xs ys:List Int):bC (x::xs) (y::ys)=if x=y then bC xs ys else decide (x<y):=rfl
theorem JJ:bC [] []=false:=rfl
theorem JU(y:Int)(ys:List Int):bC [] (y::ys)=true:=rfl
theorem JT(x:Int)(xs:List Int):bC (x::xs) []=false:=rfl
theorem Gd(A:KM)(s:f_)(a:Int)(t:Tok)(c:Int)(u:Tok):∃e,PD A s (.int a t) (.int c u) e/\(e=true↔a=c):=⟨(a==c),NV a t c u,by simp⟩
theorem eF(A:KM)(s:f_)(a:Int)(t:Tok)(c:Int)(u:Tok)(prog:E_)(w:Kz)(E:a_->f_->Prop)(Q:a_->f_->Prop)(h:Q (.bool (decide (a<c))) s):C_ (H_ prog w) A (richCompare .Lt (.int a t) (.int c u)) Q E s:=(PyProof.Rows.lt_int h:C_ (H_ prog w) A (KQ .Lt (.int a t) (.int c u)) Q E s)
section
open PySem.SeqAt
open PySem.AutoSeq1 (wpAny_loadPart')
open PySem.MeetsSeq PySem.MeetsSeq2 PySem.MeetsSeq3
theorem JH(l b:Addr)(items items2:Array a_)(n n2:Nat)(dd dd2:Option Addr)(sl sl2:Array (Option a_))(ns ms:List Int)(hi:MU items.toList ns)(hj:MU items2.toList ms) :
  Rs (MV.«tuple.__lt__» ⟨[.ref l,.ref b],[]⟩)
   (fun _ R s=>s.heap.get? l=some { cls:=.type "tuple",dict:=dd,data:=.seq items n,slots:=sl }/\s.heap.get? b=some { cls:=.type "tuple",dict:=dd2,data:=.seq items2 n2,slots:=sl2 } /\R (.ok (.ret (.bool (bC ns ms)))) s):=
 .of_wp fun prog w A R s h=>by
  obtain⟨hp,g,d,tk,os⟩:=s;obtain⟨hl,hb,h⟩:=h;have f2:=AutoSeq1.sub_tuple_tuple;have z1:items.size=ns.length:=by rw[<-hi.length];simp
  have z2:items2.size=ms.length:=by rw[<-hj.length];simp
  wp_walk using Mf hl,Mf hb,wpAny_forIn_list _ (fun rest b s'=>b.1=none/\s'=⟨hp,g,d,tk,os⟩/\∃(vs ws:List a_)(ns' ms':List Int),rest=vs.zip ws /\MU vs ns'/\MU ws ms'/\ns'.length+items2.size=ms'.length+items.size/\R (.ok (.ret (.bool (bC ns' ms')))) ⟨hp,g,d,tk,os⟩) _
  case turn=>
   rintro⟨y,x⟩ rest b s' ⟨hb',rfl,vs,ws,ns',ms',hz,hvi,hwi,hlen,hR⟩
   cases hvi with
  |nil=>rw[List.zip_nil_left]at hz;cases hz
  |cons a t hvi'=>cases hwi with
   |nil=>rw[List.zip_nil_right]at hz;cases hz
   |cons c u hwi'=>
     rw[PF]at hz;injection hz with hyx hrest
     injection hyx with hy hx
     subst hy hx;rw[de]at hR;simp only[L5]at hlen;obtain⟨e,he,hiff⟩:=Gd A.in1 ⟨hp,g,d,tk,os⟩ a t c u;refine b_ (he prog w _ _ ?_);cases e with
    |true=>
      rw[if_pos (hiff.mp rfl)]at hR
      wp_walk
      exact⟨rfl,rfl,_,_,_,_,hrest,hvi',hwi',by omega,hR⟩
    |false=>
      rw[if_neg (fun q=>absurd (hiff.mpr q) i_)]at hR;have hri:=eF A.in1 ⟨hp,g,d,tk,os⟩ a t c u prog w
      wp_walk using hri
      exact⟨_,rfl,by simpa using hR⟩
  case fin=>
   rintro⟨b1,b2⟩ s' ⟨hb',rfl,vs,ws,ns',ms',hz,hvi,hwi,hlen,hR⟩
   simp only at hb';subst hb';have hv:bC ns' ms'=decide (items.size<items2.size):=by cases hvi with
   |nil=>cases hwi with
    |nil=>simp only[NF]at hlen;rw[JJ];exact(decide_eq_false (by omega)).symm
    |cons c u hw=>simp only[NF,L5]at hlen;rw[JU];exact(decide_eq_true (by omega)).symm
   |cons a t hv=>cases hwi with
    |nil=>simp only[NF,L5]at hlen;rw[JT];exact(decide_eq_false (by omega)).symm
    |cons c u hw=>rw[PF]at hz;cases hz
   rw[hv]at hR
   wp_walk
   exact⟨_,rfl,by simpa[Qa]using hR⟩
  case h=>exact⟨rfl,rfl,items.toList,items2.toList,ns,ms,rfl,hi,hj,by omega,h⟩
end
section
variable{prog:E_}{w:Kz}{A:KM}{E:a_->f_->Prop}{s:f_}
theorem fD{l b:Addr}{items items2:Array a_}{ns ms:List Int}{Q:a_->f_->Prop}(hl:PN s.heap l items)(hb:PN s.heap b items2)(hi:MU items.toList ns)(hj:MU items2.toList ms)(hu:A.units<Mq)(h:Q (.bool (bC ns ms)) s):C_ (H_ prog w) A (KQ .Lt (.ref l) (.ref b)) Q E s:=by
 obtain⟨⟨cls,dd,data,sl⟩,ho,hc,n,hd⟩:=id hl;obtain⟨⟨cls2,dd2,data2,sl2⟩,ho2,hc2,n2,hd2⟩:=id hb;simp only at hc hd hc2 hd2;subst hc hd hc2 hd2;exact richCompare_meets_room (op:=.Lt) ⟨_,ho,rfl⟩ ⟨_,ho2,rfl⟩ PySem.F.slot_tuple_lt PySem.F.entry_tuple_lt (PySem.F.args_tuple_lt_2 _ _) (JH l b items items2 n n2 dd dd2 sl sl2 ns ms hi hj)
  ⟨ho,ho2,show Value.bool (bC ns ms)≠Value.notImplemented/\Q (.bool (bC ns ms)) s from⟨(fun x=>nomatch x),h⟩⟩ hu
theorem jn{t b:Addr}{vs ws:List a_}{Q:a_->f_->Prop}(ht:PN s.heap t vs.toArray)(hb:PN s.heap b ws.toArray)(hv:vs≠[])(h1:ws=[]->Q (.ref t) s)(h2:ws≠[]->Q (.ref s.heap.objs.size) { s with heap:=s.heap.push { cls:=.type "tuple",data:=.seq (vs++ws).toArray } })(hsz:vs.length+ws.length<=sizeLine):C_ (H_ prog w) A (ME .Add (.ref t) (.ref b)) Q E s:=by
 obtain⟨⟨cls,dd,data,sl⟩,ho,hc,n,hd⟩:=id ht;obtain⟨⟨cls2,dd2,data2,sl2⟩,ho2,hc2,n2,hd2⟩:=id hb;simp only at hc hd hc2 hd2;subst hc hd hc2 hd2;have e:vs.toArray++ws.toArray=(vs++ws).toArray:=by simp
 by_cases hw:ws=[]
 .exact OK ⟨_,ho,rfl⟩ ⟨_,ho2,rfl⟩ OA Pv Ng Na (M3 _ _)
   (tuple_addW1 t b vs.toArray ws.toArray n n2 dd dd2 sl sl2 (by simpa using hv) (by simp[hw])) ⟨ho,ho2,h1 hw⟩
 .refine OK ⟨_,ho,rfl⟩ ⟨_,ho2,rfl⟩ OA Pv Ng Na (M3 _ _)
   (tuple_addW2 t b vs.toArray ws.toArray n n2 dd dd2 sl sl2 (by simpa using hv) (by simpa using hw) (by rw[n_,n_];exact hsz)) ⟨ho,ho2,?_⟩
  rw[e];exact h2 hw
def sIx(n d:Nat):Option Int->Nat
|none=>d
|some v=>if v<0 then(v+(n:Int)).toNat else min v.toNat n
theorem bY(n d:Nat):sIx n d none=d:=rfl
theorem cz(n d k:Nat):sIx n d (some (k:Int))=min k n:=by show(if (k:Int)<0 then((k:Int)+(n:Int)).toNat else min (k:Int).toNat n)=min k n;rw[if_neg (by omega),LU]
theorem Eb(n d:Nat)(hd:d<=n)(o:Option Int):sIx n d o<=n:=by cases o with
|none=>exact hd
|some v=>
  show(if v<0 then(v+(n:Int)).toNat else min v.toNat n)<=n;by_cases hv:v<0
  .rw[if_pos hv];omega
  .rw[if_neg hv];exact Nat.min_le_right _ _
theorem yp(v:Int)(n d:Nat):(if v<0 then max (v+(n:Int)) 0 else min v (n:Int))=((sIx n d (some v):Nat):Int):=by
 show(if v<0 then max (v+(n:Int)) 0 else min v (n:Int))=(((if v<0 then(v+(n:Int)).toNat else min v.toNat n):Nat):Int)
 by_cases hv:v<0
 .simp only[if_pos hv];omega
 .simp only[if_neg hv];omega
theorem Ie(lo hi:Option Int)(n:Nat):MX lo hi 1 (n:Int)=(((sIx n 0 lo:Nat):Int),((sIx n n hi:Nat):Int)):=by
 have h1:¬ ((1:Int)<0):=by omega
 unfold MX;simp only[h1,if_false];refine Prod.ext ?_ ?_
 .cases lo with
 |none=>rfl
 |some v=>exact yp v n 0
 .cases hi with
 |none=>rfl
 |some v=>exact yp v n n
theorem IX(i j:Nat):Ma (i:Int) (j:Int) 1=j-i:=by
 unfold Ma;have h1:(1:Int)>0:=by omega
 simp only[h1,if_true,Int.ediv_one];split <;> omega
theorem AD{v:a_}{o:Option Int}{Q:Option Int->f_->Prop}(p:OL v o)(h:Q o s):C_ (H_ prog w) A (Qt v) Q E s:=by cases p with
|none=>exact slicePart_none h
|int i t=>exact slicePart_int h
theorem bB{sl:Addr}{vl vu:a_}{lo hi:Option Int}{n:Nat}{Q:Int×Int×Nat->f_->Prop}(hs:s.heap.IsSliceOf sl vl vu .none)(pl:OL vl lo)(pu:OL vu hi)(h:Q (((sIx n 0 lo:Nat):Int),1,sIx n n hi-sIx n 0 lo) s):C_ (H_ prog w) A (NW (.ref sl) (pure (n:Int))) Q E s:=by obtain⟨os,hos,hcs,hds⟩:=id hs;unfold NW Q5;refine b_ (b_ (K0 hos hds (x:=vl) rfl (b_ (K0 hos hds (x:=vu) rfl (b_ (K0 hos hds (x:=.none) rfl (u_ ?_)))))));refine b_ (slicePart_none ?_);show C_ _ _ (if ((1:Int)==0)=true then _ else _) _ _ s;rw[if_neg (by decide)];refine b_ (AD pl (b_ (AD pu (b_ (u_ ?_)))));show C_ _ _ (match MX lo hi 1 (n:Int)with|(lo,hi)=>pure (lo,(1:Int),Ma lo hi 1)) _ _ s;rw[Ie lo hi n];show C_ _ _ (pure (((sIx n 0 lo:Nat):Int),(1:Int),Ma ((sIx n 0 lo:Nat):Int) ((sIx n n hi:Nat):Int) 1)) _ _ s;rw[IX];exact u_ h
theorem GY(xs:Array a_)(i k:Nat):((h_ k).filterMap fun(m:Nat)=>xs[((i:Int)+(m:Int)*1).toNat]?).toArray=((xs.toList.drop i).take k).toArray:=by
 have e:(fun(m:Nat)=>xs[((i:Int)+(m:Int)*1).toNat]?)=fun m=>xs[i+m]?:=by
  funext m;have:((i:Int)+(m:Int)*1).toNat=i+m:=by omega
  rw[this]
 rw[e];have:=pick_run xs i k;rw[List.filterMap_map]at this;have e2:((fun x=>xs[x]?)∘fun x=>i+x)=fun m=>xs[i+m]?:=rfl;rw[e2]at this;rw[this]
theorem cD{t sl:Addr}{items:Array a_}{vl vu:a_}{lo hi:Option Int}{Q:a_->f_->Prop}(ht:PN s.heap t items)(hs:s.heap.IsSliceOf sl vl vu .none)(pl:OL vl lo)(pu:OL vu hi)(hw:¬ (sIx items.size 0 lo=0/\sIx items.size items.size hi=items.size))(h:Q (.ref s.heap.objs.size) { s with heap:=s.heap.push { cls:=.type "tuple",data:=.seq ((items.toList.drop (sIx items.size 0 lo)).take (sIx items.size items.size hi-sIx items.size 0 lo)).toArray } })(hsz:items.size<=sizeLine):C_ (H_ prog w) A (OM (.ref t) (.ref sl)) Q E s:=by
 have htake:sizeOk (.seq ((items.toList.drop (sIx items.size 0 lo)).take (sIx items.size items.size hi-sIx items.size 0 lo)).toArray):=by show((items.toList.drop (sIx items.size 0 lo)).take (sIx items.size items.size hi-sIx items.size 0 lo)).toArray.size<=sizeLine;rw[n_,K5,KR,LZ];omega
 have hj:sIx items.size items.size hi<=items.size:=Eb _ _ (q_ _) hi;obtain⟨os,hos,hcs,hds⟩:=id hs;have hTs:s.TypeIs (.ref sl) "slice" := ⟨os,hos,hcs⟩
 unfold OM
 try with_reducible refine Ll ?_
 first|refine b_ (u_ ?_)|skip
 refine b_ (PY ht.typeIs (by decide) ?_);refine b_ (K6 (name:=Mj "__getitem__") ht.typeIs KZ
  (Lx KZ ht.typeIs entry_tuple_getitem ?_ (args_tuple_getitem _ _)))
 show C_ _ _ (NX (.ref t) >>= _) _ _ s;refine b_ (tupleItemsOf_ ht ?_);refine b_ (OO hTs ?_);rw[if_pos (by decide)];refine b_ (bB hs pl pu ?_);have hno:¬ ((((sIx items.size 0 lo:Nat):Int)==0&&(1:Int)==1&&(sIx items.size items.size hi-sIx items.size 0 lo)==items.size)=true):=by intro q;rw[Kt,Kt]at q;have q1:((sIx items.size 0 lo:Nat):Int)=0:=Mg q.1.1;have q2:sIx items.size items.size hi-sIx items.size 0 lo=items.size:=Mg q.2;exact hw ⟨by omega,by omega⟩
 show C_ _ _ (if (((sIx items.size 0 lo:Nat):Int)==0&&(1:Int)==1&&(sIx items.size items.size hi-sIx items.size 0 lo)==items.size)=true then _ else _) _ _ s;rw[if_neg hno,GY]
 first
  |exact b_ (m:=Mm _) (LV (u_ ⟨_,rfl,u_ h⟩) htake)
  |exact b_ (m:=Mm _) (LV (b_ (u_ (u_ ⟨_,rfl,u_ h⟩))) htake)
  |exact b_ (b_ (m:=Mm _) (LV (u_ (u_ ⟨_,rfl,u_ h⟩)) htake))
  |exact b_ (b_ (m:=Mm _) (LV (u_ ⟨_,rfl,u_ h⟩) htake))
end
end HT
namespace L2
open PySem PySem.Spec PyProof.Rows
abbrev TO:=St->Hp->(Option Int->Hp->Prop)->Prop
def PO(X:Cx)(e:Option Expr)(t:TO):Prop:=∀(pz:List (Addr×Obj))(s:f_)(σ:St)(H:Hp)(Q:Option Int->Hp->Prop),Inv X pz σ H s->t σ H Q ->C_ (H_ X.prog X.w) X.A (evalPart e X.env) (fun u s'=>∃o H',Inv X pz σ H' s'/\OL u o/\Q o H') X.xe s
def Fb:TO:=fun _ H Q=>Q none H
def BV(t:TE):TO:=fun σ H Q=>t σ H fun x H1=>∃i,x=.int i/\Q (some i) H1
theorem Il{ns:List Int}:∀{us:List a_},ak (ns.map V.int) us->MU us ns:=by induction ns with
|nil=>intro us r;rw[LC]at r;cases r;exact .nil
|cons n ns ih=>intro us r;rw[B_]at r;cases r with
 |cons r1 r2=>obtain⟨t,e⟩:=r1;subst e;exact .cons n t (ih r2)
section
variable{X:Cx}{e:Expr}{te:TE}{lo hi:Option Expr}{tl th:TO}{pos p2:Pos}
theorem Fp:PO X none Fb:=by intro pz s σ H Q I h;rw[evalPart_none];exact u_ ⟨none,H,I,.none,h⟩
theorem Fq(h:PE X e te):PO X (some e) (BV te):=by intro pz s σ H Q I hw;rw[evalPart_some];refine aH (h pz s σ H _ I hw) fun u s1 ⟨x,H1,I1,r1,q1⟩=>?_;obtain⟨i,rfl,q⟩:=q1;obtain⟨t,rfl⟩:=r1;exact⟨some i,H1,I1,.int i t,q⟩
def ij(X:Cx)(r:V->Option Int->Option Int->Hp->VK->Prop):Prop:=∀(pz:List (Addr×Obj))(s:f_)(σ:St)(H:Hp)(x:V)(v vl vu:a_)(lo hi:Option Int)(sl:Addr)(Q:VK),Inv X pz σ H s->aq x v->s.heap.IsSliceOf sl vl vu .none->OL vl lo->OL vu hi->r x lo hi H Q ->∃T id,QM (.type T) "__getitem__" = pure (some (.builtin id))/\s.TypeIs v T/\C_ (H_ X.prog X.w) X.A (OM v (.ref sl)) (EP X pz σ Q) X.xe s
theorem ij.or{r r':V->Option Int->Option Int->Hp->VK->Prop}(h:ij X r)(h':ij X r'):ij X (fun x lo hi H Q=>r x lo hi H Q\/r' x lo hi H Q):=by
 intro pz s σ H x v vl vu lo hi sl Q I rx hs pl pu q;rcases q with q|q
 .exact h pz s σ H x v vl vu lo hi sl Q I rx hs pl pu q
 .exact h' pz s σ H x v vl vu lo hi sl Q I rx hs pl pu q
def Ka(r:V->Option Int->Option Int->Hp->VK->Prop)(te:TE)(tl th:TO):TE:=fun σ H Q=>te σ H fun x H1=>tl σ H1 fun l H2=>th σ H2 fun u H3=>r x l u H3 Q
theorem za{r:V->Option Int->Option Int->Hp->VK->Prop}(hr:ij X r)(he:PE X e te)(hl:PO X lo tl)(hu:PO X hi th):PE X (.Subscript e (.Slice lo hi none p2) pos) (Ka r te tl th):=by intro pz s σ H Q I h;refine Subscript_ (aH (he pz s σ H _ I h) fun v s1 ⟨x,H1,I1,r1,q1⟩=>?_);refine wpAny_Slice (aH (hl pz s1 σ H1 _ I1 q1) fun vl s2 ⟨l,H2,I2,pl,q2⟩=>aH (hu pz s2 σ H2 _ I2 q2) fun vu s3 ⟨u,H3,I3,pu,q3⟩=>?_);rw[evalPart_none];refine u_ ?_;have I4:Inv X pz σ H3 { s3 with heap:=s3.heap.push { cls:=.type "slice",data:=.fields #[vl,vu,.none] } }:=I3.kept (t':=s3.toks) fun b ob q=>e_ _ q;obtain⟨T,id,hT,ht,hg⟩:=hr pz { s3 with heap:=s3.heap.push { cls:=.type "slice",data:=.fields #[vl,vu,.none] } } σ H3 x v vl vu l u s3.heap.objs.size Q I4 r1 (Heap.IsSliceOf.new ..) pl pu q3;show C_ (H_ X.prog X.w) X.A (subscriptTail e (.Slice lo hi none p2) v (.ref s3.heap.objs.size)) (EP X pz σ Q) X.xe { s3 with heap:=s3.heap.push { cls:=.type "slice",data:=.fields #[vl,vu,.none] } };exact tail_any (ops:=[.ref s3.heap.objs.size,v]) ht hT hg (by with_unfolding_all rfl)
def gs(xs:List V)(lo hi:Option Int):List V:=(xs.drop (HT.sIx xs.length 0 lo)).take (HT.sIx xs.length xs.length hi-HT.sIx xs.length 0 lo)
theorem Av(xs:List V)(lo hi:Option Int):(gs xs lo hi).length<=xs.length:=by unfold gs;rw[K5,KR];omega
def vH(K:W.Frag):V->Option Int->Option Int->Hp->VK->Prop:=fun x lo hi H Q=>∃a xs,x=.ref a/\bF K H a xs /\¬ (HT.sIx xs.length 0 lo=0/\HT.sIx xs.length xs.length hi=xs.length)/\∀p,H p=none->Q (.ref p) (upd H p (.tup (gs xs lo hi)))
theorem xE:ij X (vH X.K):=by
 intro pz s σ H x v vl vu lo hi sl Q I rx hs pl pu h;obtain⟨a,xs,rfl,hx,hw,q⟩:=h;cases rx;obtain⟨its,r,ht,hz⟩:=I.tuple hx;have hlen:its.toArray.size=xs.length:=by rw[n_];exact r.length.symm
 refine⟨"tuple",_,KZ.lookup,ht.typeIs,?_⟩;refine HT.cD ht hs pl pu (by rw[hlen];exact hw) ?_ (by rw[hlen];exact hz);rw[hlen];refine⟨.ref s.heap.objs.size,_,I.laid (t':=s.toks) (o:=.tup (gs xs lo hi)) (fun b ob q=>e_ _ q) (q_ _) ?_,rfl,q _ (I.hok.fresh (q_ _))⟩;exact⟨KF (Av xs lo hi) hz,_,(r.drop (HT.sIx xs.length 0 lo)).take (HT.sIx xs.length xs.length hi-HT.sIx xs.length 0 lo),Rt _ _,_,y_ _ rfl,rfl⟩
def qI(K:W.Frag):R2:=fun x y H Q=>∃a b xs ys,x=.ref a/\y=.ref b/\bF K H a xs/\bF K H b ys/\xs≠[]/\xs.length+ys.length<=sizeLine /\(ys=[]->Q (.ref a) H)/\(ys≠[]->∀p,H p=none->Q (.ref p) (upd H p (.tup (xs++ys))))
theorem ak.nil_iff{xs:List V}{us:List a_}(r:ak xs us):us=[]↔xs=[]:=by cases r with
|nil=>simp
|cons _ _=>simp
theorem yd:aT X (ME .Add) (qI X.K):=by intro pz s σ H x y v u Q I rx ry h;obtain⟨a,b,xs,ys,rfl,rfl,ha,hb,hx,hz,q1,q2⟩:=h;cases rx;cases ry;obtain⟨its,r1,p1,_⟩:=I.tuple ha;obtain⟨its2,r2,p2,_⟩:=I.tuple hb;refine HT.jn p1 p2 (fun z=>hx (r1.nil_iff.mp z)) (fun z=>⟨.ref a,H,I,rfl,q1 (r2.nil_iff.mp z)⟩) (fun z=>?_) (by rw[<-r1.length,<-r2.length];exact hz);refine⟨.ref s.heap.objs.size,_,I.laid (t':=s.toks) (o:=.tup (xs++ys)) (fun b ob q=>e_ _ q) (q_ _) ?_,rfl,q2 (fun w=>z (r2.nil_iff.mpr w)) _ (I.hok.fresh (q_ _))⟩;exact⟨by rw[I_];exact hz,_,r1.append r2,Rt _ _,_,y_ _ rfl,rfl⟩
end
def fW(n:Nat)(i:Int):Option Nat:=if 0<=i then(if i<n then some i.toNat else none)else if-(n:Int)<=i then some (i+n).toNat else none
def d6{α:Type}(xs:List α)(i:Int):Option α:=(fW xs.length i).bind fun j=>xs[j]?
theorem ym{n:Nat}{i:Int}{j:Nat}(h:fW n i=some j):seqIndex? i n=some j/\j<n/\-(n:Int)<=i/\i<n:=by
 unfold fW at h;by_cases h0:0<=i
 .rw[if_pos h0]at h;by_cases h1:i<n
  .rw[if_pos h1]at h;have e:i.toNat=j:=G_ h;exact⟨by rw[Qq h0 h1,e],by omega,by omega,h1⟩
  .rw[if_neg h1]at h;cases h
 .rw[if_neg h0]at h;by_cases h1 : -(n:Int)<=i
  .rw[if_pos h1]at h;have e:(i+n).toNat=j:=G_ h;exact⟨by rw[seqIndex_neg (by omega) h1,e],by omega,h1,by omega⟩
  .rw[if_neg h1]at h;cases h
theorem rM{α:Type}{xs:List α}{i:Int}{v:α}(h:d6 xs i=some v):∃j,seqIndex? i xs.length=some j/\xs[j]? = some v/\j<xs.length/\-(xs.length:Int)<=i/\i<xs.length:=by unfold d6 at h;cases e:fW xs.length i with
|none=>rw[e]at h;cases h
|some j=>rw[e]at h;obtain⟨h1,h2,h3,h4⟩:=ym e;exact⟨j,h1,h,h2,h3,h4⟩
def rL(b:Expr):Prop:=∀o i,subscripted b false o i=operate [o,i] (OM o i)
def io(X:Cx)(r:R2):Prop:=∀(value slice:Expr)(pz:List (Addr×Obj))(s:f_)(σ:St)(H:Hp)(x y:V)(v u:a_)(Q:VK),Inv X pz σ H s->aq x v->aq y u->r x y H Q ->subscripted slice false v u=operate [v,u] (OM v u)->C_ (H_ X.prog X.w) X.A (subscriptTail value slice v u) (EP X pz σ Q) X.xe s
def fI(X:Cx)(id:String)(r:V->List V->Hp->VK->Prop):Prop:=∀(pz:List (Addr×Obj))(s:f_)(σ:St)(H:Hp)(x:V)(xs:List V)(v:a_)(us:List a_)(Q:VK),Inv X pz σ H s->aq x v->ak xs us->r x xs H Q ->C_ (H_ X.prog X.w) X.A (call (.builtin id) (v::us)) (EP X pz σ Q) X.xe s
section
variable{X:Cx}{a b:Expr}{ta tb:TE}{pos:Pos}
theorem io.or{r r':R2}(h:io X r)(h':io X r'):io X (fun x y H Q=>r x y H Q\/r' x y H Q):=by
 intro value slice pz s σ H x y v u Q I rx ry q hs;rcases q with q|q
 .exact h value slice pz s σ H x y v u Q I rx ry q hs
 .exact h' value slice pz s σ H x y v u Q I rx ry q hs
theorem fI.or{id:String}{r r':V->List V->Hp->VK->Prop}(h:fI X id r)(h':fI X id r'):fI X id (fun x xs H Q=>r x xs H Q\/r' x xs H Q):=by
 intro pz s σ H x xs v us Q I rx rs q;rcases q with q|q
 .exact h pz s σ H x xs v us Q I rx rs q
 .exact h' pz s σ H x xs v us Q I rx rs q
theorem Cm{r:R2}(hr:io X r)(ha:PE X a ta)(hb:PE X b tb)(hs:rL b):PE X (.Subscript a b pos) (lZ r ta tb):=by intro pz s σ H Q I h;exact Subscript_ (kP ha hb I h fun v u s2 x y H2 I2 rx ry q=>hr a b pz s2 σ H2 x y v u Q I2 rx ry q (hs _ _))
def nz(K:W.Frag):R2:=fun x y H Q=>∃p xs i v,x=.ref p/\y=.int i/\aO K H p xs/\d6 xs i=some v/\Q v H
def nw(K:W.Frag):R2:=fun x y H Q=>∃p xs i v,x=.ref p/\y=.int i/\bF K H p xs/\d6 xs i=some v/\Q v H
def ny:R2:=fun x y H Q=>∃z i c,x=.str z/\y=.int i/\z.length<=sizeLine/\d6 z.cps.toList i=some c/\Q (.str ⟨#[c]⟩) H
theorem EZ:io X (nz X.K):=by
 intro value slice pz s σ H x y v u Q I rx ry h hs;obtain⟨p,xs,i,z,rfl,rfl,hq,he,q⟩:=h;cases rx;obtain⟨t,rfl⟩:=ry;obtain⟨its,r,pl,hz⟩:=I.list hq;obtain⟨j,h1,h2,h3,h4,h5⟩:=rM he;obtain⟨w,ew,rw'⟩:=r.get h2;have hl:=r.length;have hn:=lu;have fin:EP X pz σ Q w s:=⟨z,H,I,rw',q⟩
 by_cases h0:0<=i
 .have hj:i.toNat=j:=by rw[Qq h0 h5]at h1;exact G_ h1
  exact item_listR pl.isList h0 (by omega) (by rw[hj];simpa using ew) fin hs
 .have hj:(i+(its.toArray.size:Int)).toNat=j:=by rw[seqIndex_neg (by omega) h4]at h1;rw[n_,<-hl];exact G_ h1
  exact OP (x:=w) pl.isList.typeIs PZ.lookup
   (wpAny_getItem_list_neg (Q:=fun r s'=>r=w/\EP X pz σ Q r s') pl.isList (by omega) (by rw[n_] <;> omega) (by omega) (by rw[hj];simpa using ew) ⟨rfl,fin⟩) hs
theorem CM:io X (nw X.K):=by
 intro value slice pz s σ H x y v u Q I rx ry h hs;obtain⟨p,xs,i,z,rfl,rfl,hq,he,q⟩:=h;cases rx;obtain⟨t,rfl⟩:=ry;obtain⟨its,r,pl,hz⟩:=I.tuple hq;obtain⟨j,h1,h2,h3,h4,h5⟩:=rM he;obtain⟨w,ew,rw'⟩:=r.get h2;have hl:=r.length;have hn:=lu;have fin:EP X pz σ Q w s:=⟨z,H,I,rw',q⟩
 exact OP (x:=w) pl.typeIs KZ.lookup
  (getItem_tuple (j:=j) (Q:=fun r s'=>r=w/\EP X pz σ Q r s') pl (by omega) (by omega) (by rw[n_,<-hl];exact h1) (by simpa using ew) ⟨rfl,fin⟩) hs
theorem CL:io X ny:=by
 intro value slice pz s σ H x y v u Q I rx ry h hs;obtain⟨z,i,c,rfl,rfl,hz,he,q⟩:=h;obtain⟨t,rfl⟩:=rx;obtain⟨t',rfl⟩:=ry;obtain⟨j,h1,h2,h3,h4,h5⟩:=rM he;have hl:z.cps.toList.length=z.length:=by simp[Str.length]
 rw[hl]at h1 h4 h5;have hn:=lu;exact tail_any (typeIs_str s z t) slot_str_getitem.lookup (getItem_str (c:=c) (by have e1:decide (i < -(2^63:Int))=false:=decide_eq_false (by omega);have e2:decide (i>=2^63)=false:=decide_eq_false (by omega);rw[e1,e2,Rl]) (by rw[h1];simpa using h2) ⟨.str ⟨#[c]⟩,H,I.tok _,⟨_,rfl⟩,q⟩) hs
def vJ(K:W.Frag):R2:=fun x y H Q=>nz K x y H Q\/nw K x y H Q\/ny x y H Q
theorem CK:io X (vJ X.K):=EZ.or (CM.or CL)
theorem IS(its:List a_)(n j:Nat)(u:a_):Lq (·.setIfInBounds j u) { cls:=.type "list",data:=.seq its.toArray n }={ cls:=.type "list",data:=.seq (its.set j u).toArray n }:=by simp[Lq]
theorem Inv.lst{pz:List (Addr×Obj)}{σ:St}{H:Hp}{s:f_}{p:Addr}{xs:List V}(I:Inv X pz σ H s)(h:H p=some (.lst xs)):∃(its:List a_)(n:Nat),ak xs its/\s.heap.get? p=some { cls:=.type "list",data:=.seq its.toArray n }/\xs.length<=sizeLine:=by obtain⟨z,its,n,r,e⟩:=I.hok p _ h;exact⟨its,n,r,e,z⟩
theorem Inv.lstUpd{pz:List (Addr×Obj)}{σ:St}{H:Hp}{s:f_}{p:Addr}{xs ys:List V}{its its':List a_}{n n':Nat}{f:Obj->Obj}(I:Inv X pz σ H s)(h:H p=some (.lst xs))(ho:s.heap.get? p=some { cls:=.type "list",data:=.seq its.toArray n })(hf:f { cls:=.type "list",data:=.seq its.toArray n }={ cls:=.type "list",data:=.seq its'.toArray n' })(r:ak ys its')(hz:ys.length<=sizeLine)(t:Nat):Inv X pz σ (upd H p (.lst ys)) { s with heap:=s.heap.update p f,toks:=t }:=by
 have e:(s.heap.update p f).get? p=some { cls:=.type "list",data:=.seq its'.toArray n' }:=by rw[LL f ho (by rw[hf] <;> rfl),hf]
 refine I.write (x:=p) (e:=p) (by rw[h];trivial) (.inl rfl) (fun b u hb q=>(LD _ _ (Mh hb)).trans q) ⟨_,e⟩ ?_;exact⟨hz,its',n',r,e⟩
def wT:V->V->V->Hp->(Hp->Prop)->Prop:=fun o i v H Q=>∃p xs k j,o=.ref p/\i=.int k/\H p=some (.lst xs)/\fW xs.length k=some j/\Q (upd H p (.lst (xs.set j v)))
theorem Gu:eN X wT:=by
 intro pz s σ H o i v ov iv u Q I ro ri rv h;obtain⟨p,xs,k,j,rfl,rfl,hp,hj,q⟩:=h;cases ro;obtain⟨t,rfl⟩:=ri;obtain⟨its,n,r,ho,hz⟩:=I.lst hp;obtain⟨h1,h2,h3,h4⟩:=ym hj;have hl:=r.length;have hn:=lu;have I':Inv X pz σ (upd H p (.lst (xs.set j v))) { s with heap:=s.heap.update p (Lq (·.setIfInBounds j u)) }:=I.lstUpd hp ho (IS its n j u) (r.set rv j) (by rw[NG];exact hz) s.toks;by_cases h0:0<=k
 .have hk:k.toNat=j:=by rw[Qq h0 h4]at h1;exact G_ h1
  exact W.ki_setAt ho h0 (by omega) (by rw[n_,<-hl];exact h4) (by rw[hk];exact⟨_,I',q⟩)
 .have hk:(k+(its.toArray.size:Int)).toNat=j:=by rw[seqIndex_neg (by omega) h3]at h1;rw[n_,<-hl];exact G_ h1
  exact W.ki_setBack ho (by omega) (by rw[n_,<-hl];exact h3) (by omega) (by rw[hk];exact⟨_,I',q⟩)
theorem Jy(lo hi:Option Int)(n:Nat):(Nb lo hi none n).1=((HT.sIx n 0 lo:Nat):Int)/\(Nb lo hi none n).2.1=((HT.sIx n n hi:Nat):Int)/\(Nb lo hi none n).2.2=1:=by
 refine⟨?_,?_,rfl⟩
 .cases lo with
 |none=>simp[Nb,HT.sIx]
 |some i=>
   simp only[Nb,HT.sIx,Mu,show(1:Int)>0 by decide,if_true];by_cases h:i<0
   .simp only[h,if_true] <;> omega
   .simp only[h,if_false] <;> omega
 .cases hi with
 |none=>simp[Nb,HT.sIx]
 |some i=>
   simp only[Nb,HT.sIx,Mu,show(1:Int)>0 by decide,if_true];by_cases h:i<0
   .simp only[h,if_true] <;> omega
   .simp only[h,if_false] <;> omega
theorem JF(its:List a_)(lo hi:Option Int):slicePick its.toArray lo hi none=((its.drop (HT.sIx its.length 0 lo)).take (HT.sIx its.length its.length hi-HT.sIx its.length 0 lo)).toArray:=by obtain⟨h1,h2,h3⟩:=Jy lo hi its.toArray.size;unfold slicePick;rw[h1,h2,h3];simp only[sliceRange_one,pick_run,n_] <;> rfl
def vI(K:W.Frag):V->Option Int->Option Int->Hp->VK->Prop:=fun x lo hi H Q=>∃a xs,x=.ref a/\aO K H a xs/\∀p,H p=none->Q (.ref p) (upd H p (.lst (gs xs lo hi)))
theorem yG:ij X (vI X.K):=by intro pz s σ H x v vl vu lo hi sl Q I rx hs pl pu h;obtain⟨a,xs,rfl,hx,q⟩:=h;cases rx;obtain⟨its,r,ht,hz⟩:=I.list hx;have hlen:=r.length;refine⟨"list",_,PZ.lookup,ht.isList.typeIs,?_⟩;refine wpAny_getItem_list_slice ht.isList hs pl pu .none (by simp) ?_ (by rw[n_] <;> omega);rw[JF,<-hlen];refine⟨.ref s.heap.objs.size,_,I.laid (t':=s.toks) (o:=.lst (gs xs lo hi)) (fun b ob q=>e_ _ q) (q_ _) ?_,rfl,q _ (I.hok.fresh (q_ _))⟩;exact⟨KF (Av xs lo hi) hz,_,0,(r.drop (HT.sIx xs.length 0 lo)).take (HT.sIx xs.length xs.length hi-HT.sIx xs.length 0 lo),y_ _ rfl⟩
def dX:V->Bool
|.non=>true
|.bl _=>true
|.int _=>true
|.str _=>true
|_=>false
def gr:V->V->Bool
|.non,.non=>true
|.bl a,.bl b=>a==b
|.bl a,.int b=>(if a then 1 else 0)==b
|.int a,.bl b=>a==(if b then 1 else 0)
|.int a,.int b=>a==b
|.str a,.str b=>a==b
|_,_=>false
theorem Dw{A:KM}{s:f_}{y x:V}{u v:a_}(ry:aq y u)(rx:aq x v)(fy:dX y=true)(fx:dX x=true):PD A s u v (gr y x):=by cases y with
|non=>cases ry;cases x with
 |non=>cases rx;exact Qu _
 |bl b=>cases rx;exact SeqAt.EqAt.none_bool b
 |int b=>obtain⟨t,rfl⟩:=rx;exact SeqAt.EqAt.none_int b t
 |str b=>obtain⟨t,rfl⟩:=rx;exact SeqAt.EqAt.none_str b t
 |_=>exact absurd (show false=true from fx) i_
|bl a=>cases ry;cases x with
 |non=>cases rx;exact SeqAt.EqAt.bool_none a
 |bl b=>cases rx;exact SeqAt.EqAt.bool_bool a b
 |int b=>obtain⟨t,rfl⟩:=rx;exact SeqAt.EqAt.bool_int a b t
 |str b=>obtain⟨t,rfl⟩:=rx;exact SeqAt.EqAt.bool_str a b t
 |_=>exact absurd (show false=true from fx) i_
|int a=>obtain⟨t',rfl⟩:=ry;cases x with
 |non=>cases rx;exact SeqAt.EqAt.int_none a t'
 |bl b=>cases rx;exact SeqAt.EqAt.int_bool a t' b
 |int b=>obtain⟨t,rfl⟩:=rx;exact NV a t' b t
 |str b=>obtain⟨t,rfl⟩:=rx;exact Py a t' b t
 |_=>exact absurd (show false=true from fx) i_
|str a=>obtain⟨t',rfl⟩:=ry;cases x with
 |non=>cases rx;exact SeqAt.EqAt.str_none a t'
 |bl b=>cases rx;exact SeqAt.EqAt.str_bool a t' b
 |int b=>obtain⟨t,rfl⟩:=rx;exact Pz a t' b t
 |str b=>obtain⟨t,rfl⟩:=rx;exact SeqAt.EqAt.str_str a t' b t
 |_=>exact absurd (show false=true from fx) i_
|_=>exact absurd (show false=true from fy) i_
def c6(x:V)(u:a_):Bool:=match u with
|.none=>gr .non x
|.bool b=>gr (.bl b) x
|.int i _=>gr (.int i) x
|.str z _=>gr (.str z) x
|_=>false
theorem ou{x y:V}{u:a_}(r:aq y u)(f:dX y=true):c6 x u=gr y x:=by cases y with
|non=>cases r;rfl
|bl b=>cases r;rfl
|int i=>obtain⟨t,rfl⟩:=r;rfl
|str z=>obtain⟨t,rfl⟩:=r;rfl
|_=>exact absurd (show false=true from f) i_
theorem mS{x:V}:∀{xs:List V}{us:List a_},ak xs us->xs.all dX=true->us.any (c6 x)=xs.any fun y=>gr y x
|_,_,.nil,_=>rfl
|y::xs,u::us,.cons r t,f=>by rw[Mn,Kt]at f;rw[MG,MG,ou r f.1,mS t f.2]
theorem kg{A:KM}{s:f_}{x:V}{v:a_}(rx:aq x v)(fx:dX x=true):∀{xs:List V}{us:List a_},ak xs us->xs.all dX=true->∀u∈us,PD A s u v (c6 x u)
|_,_,.nil,_=>fun u hu=>by cases hu
|y::xs,u::us,.cons r t,f=>fun u' hu=>by
  rw[Mn,Kt]at f;rcases z_.mp hu with rfl|hu
  .rw[ou r f.1];exact Dw r rx f.1 fx
  .exact kg rx fx t f.2 u' hu
def qq(x:V)(xs:List V):Bool:=xs.any fun y=>gr y x
def vK(K:W.Frag)(neg:Bool):R2:=fun x y H Q=>∃p xs,y=.ref p/\(aO K H p xs\/bF K H p xs)/\dX x=true/\xs.all dX=true/\Q (.bl (if neg then ! qq x xs else qq x xs)) H
theorem HI:aT X (KQ .In) (vK X.K false):=by
 intro pz s σ H x y v u Q I rx ry h;obtain⟨p,xs,rfl,hq,fx,fs,q⟩:=h;cases ry;rcases hq with hq|hq
 .obtain⟨its,r,pl,hz⟩:=I.list hq;refine SeqAt.in_listAt (c6 x) pl.isList (fun w hw=>kg rx fx r fs w (by simpa using hw)) ⟨.bl _,H,I,rfl,?_⟩;rw[show its.toArray.any (c6 x)=its.any (c6 x)by simp,mS r fs];exact q
 .obtain⟨its,r,pl,hz⟩:=I.tuple hq;refine SeqAt.in_tupleAt (c6 x) pl (fun w hw=>kg rx fx r fs w (by simpa using hw)) ⟨.bl _,H,I,rfl,?_⟩;rw[show its.toArray.any (c6 x)=its.any (c6 x)by simp,mS r fs];exact q
theorem JC:aT X (KQ .NotIn) (vK X.K true):=by
 intro pz s σ H x y v u Q I rx ry h;obtain⟨p,xs,rfl,hq,fx,fs,q⟩:=h;cases ry;rcases hq with hq|hq
 .obtain⟨its,r,pl,hz⟩:=I.list hq;refine SeqAt.notIn_listAt (c6 x) pl.isList (fun w hw=>kg rx fx r fs w (by simpa using hw)) ⟨.bl _,H,I,rfl,?_⟩;rw[show its.toArray.any (c6 x)=its.any (c6 x)by simp,mS r fs];exact q
 .obtain⟨its,r,pl,hz⟩:=I.tuple hq;refine SeqAt.notIn_tupleAt (c6 x) pl (fun w hw=>kg rx fx r fs w (by simpa using hw)) ⟨.bl _,H,I,rfl,?_⟩;rw[show its.toArray.any (c6 x)=its.any (c6 x)by simp,mS r fs];exact q
theorem JD:aT X (KQ .NotIn) (fun x y H Q=>∃i j,x=.str i/\y=.str j/\Q (.bl (!(!(LS j i 0 j.length 1).isEmpty))) H):=by intro pz s σ H x y v u Q I rx ry h;obtain⟨i,j,rfl,rfl,q⟩:=h;obtain⟨t,rfl⟩:=rx;obtain⟨t',rfl⟩:=ry;exact notIn_str ⟨.bl _,H,I,rfl,q⟩
theorem dW.or{f:a_}{r r':List V->Hp->VK->Prop}(h:dW X f r)(h':dW X f r'):dW X f (fun xs H Q=>r xs H Q\/r' xs H Q):=by
 intro pz s σ H xs us Q I rs q;rcases q with q|q
 .exact h pz s σ H xs us Q I rs q
 .exact h' pz s σ H xs us Q I rs q
theorem JB:dW X (.type "list") (fun xs H Q=>∃p ys,xs=[.ref p]/\(aO X.K H p ys\/bF X.K H p ys)/\∀l,H l=none->Q (.ref l) (upd H l (.lst ys))):=by
 intro pz s σ H xs us Q I r h;obtain⟨p,ys,rfl,hq,q⟩:=h;obtain⟨u,rfl,rx⟩:=fN r;cases rx;have fin:∀(its:List a_),ak ys its->ys.length<=sizeLine->∀(h':Heap)(c':Nat),(∀b o',s.heap.get? b=some o'->h'.get? b=some o') ->h'.get? s.heap.objs.size=some { cls:=.type "list",dict:=none,data:=.seq its.toArray c',slots:=#[] }->EP X pz σ Q (.ref s.heap.objs.size) { s with heap:=h' }:=fun its r' hz h' c' kp e=>⟨.ref s.heap.objs.size,_,I.laid (t':=s.toks) kp (q_ _) (show bx X.prog X.w _ h' _ (.lst ys)from⟨hz,its,c',r',e⟩),rfl,q _ (I.hok.fresh (q_ _))⟩
 rcases hq with hq|hq
 .obtain⟨its,r',pl,hz⟩:=I.list hq;have hlen:=r'.length;obtain⟨o,ho,hc,n,hd⟩:=pl.isList;exact call_list_seq p (.inl rfl) ho hc hd (fun h' c' kp e=>fin its r' hz h' c' kp e) (by simp only[n_] <;> omega)
 .obtain⟨its,r',pl,hz⟩:=I.tuple hq;have hlen:=r'.length;obtain⟨o,ho,hc,n,hd⟩:=pl;exact call_list_seq p (.inr rfl) ho hc hd (fun h' c' kp e=>fin its r' hz h' c' kp e) (by simp only[n_] <;> omega)
theorem JO:dW X (.type "tuple") (fun xs H Q=>∃p ys,xs=[.ref p]/\((aO X.K H p ys/\∀l,H l=none->Q (.ref l) (upd H l (.tup ys)))\/(bF X.K H p ys/\Q (.ref p) H))):=by
 intro pz s σ H xs us Q I r h;obtain⟨p,ys,rfl,h⟩:=h;obtain⟨u,rfl,rx⟩:=fN r;cases rx;rcases h with⟨hq,q⟩|⟨hq,q⟩
 .obtain⟨its,r',pl,hz⟩:=I.list hq;have hlen:=r'.length;refine call_tuple_list pl.isList (fun h' kp=>?_) (by simp only[n_] <;> omega);have I1:Inv X pz σ H { s with heap:=h' }:=I.kept (t':=s.toks) kp;have I2:Inv X pz σ (upd H h'.objs.size (.tup ys)) { s with heap:=h'.push { cls:=.type "tuple",data:=.seq its.toArray } }:=I1.laid (t':=s.toks) (fun b o e=>e_ _ e) (q_ _) (show bx X.prog X.w _ _ _ (.tup ys)from⟨hz,its,r',Rt _ _,_,y_ _ rfl,rfl⟩);exact⟨.ref h'.objs.size,_,I2,rfl,q _ (I1.hok.fresh (q_ _))⟩
 .obtain⟨its,r',pl,hz⟩:=I.tuple hq;exact call_tuple_same pl ⟨.ref p,H,I,rfl,q⟩
def lY(K:W.Frag)(T:String)(x:V)(H:Hp):Prop:=match x with
|.str _=>T = "str"
|.int _=>T = "int"
| .ref p=>(T = "list"/\∃xs,aO K H p xs)\/(T = "tuple"/\((∃o,K.lookup p=some o/\o.cls=.type "tuple"/\o.dict=none)\/∃xs,Rd H p (.tup xs))) \/
   (T = "dict"/\((∃kvs,Rd H p (.dK kvs))\/∃kvs,H p=some (.dT kvs)))\/(T = "set"/\∃S n,H p=some (.set S n))
|_=>False
theorem xH{pz:List (Addr×Obj)}{σ:St}{H:Hp}{s:f_}{T:String}{x:V}{v:a_}(I:Inv X pz σ H s)(r:aq x v)(ty:lY X.K T x H):s.TypeIs v T/\∀a,v=.ref a->∃ob,s.heap.get? a=some ob/\ob.dict=none:=by cases x with
|str z=>obtain⟨t,rfl⟩:=r;cases(show T = "str" from ty);exact⟨typeIs_str s z t,fun _ e=>nomatch e⟩
|int i=>obtain⟨t,rfl⟩:=r;cases(show T = "int" from ty);exact⟨typeIs_int s i t,fun _ e=>nomatch e⟩
|ref p=>
  cases r;rcases ty with⟨rfl,xs,hq⟩|⟨rfl,⟨o,hk,hc,hd⟩|⟨xs,hq⟩⟩|⟨rfl,hk⟩|⟨rfl,S,n,hk⟩
  .obtain⟨its,_,pl,_⟩:=I.list hq;refine⟨pl.isList.typeIs,fun a e=>?_⟩;cases e;obtain⟨o,n,e,c,hd,_⟩:=pl;exact⟨o,e,hd⟩
  .refine⟨⟨o,I.kIn p o hk,hc⟩,fun a e=>?_⟩;cases e;exact⟨o,I.kIn _ o hk,hd⟩
  .obtain⟨_,its,_,⟨o,ho,hc,_⟩,o2,ho2,hd2⟩:=hq.ok I.hok;refine⟨⟨o,ho,hc⟩,fun a e=>?_⟩;cases e;exact⟨o2,ho2,hd2⟩
  .have z:∃o,s.heap.get? p=some o/\o.ExactDict:=by
    rcases hk with⟨kvs,hk⟩|⟨kvs,hk⟩
    .obtain⟨_,_,_,_,o,_,_,e,ex,_⟩:=(show bx X.prog X.w H s.heap p (.dK kvs)from hk.ok I.hok)
     exact⟨o,e,ex⟩
    .obtain⟨_,_,_,_,o,_,_,e,ex,_⟩:=I.hok p _ hk;exact⟨o,e,ex⟩
   obtain⟨o,e,ex⟩:=z;refine⟨⟨o,e,ex.1⟩,fun a e2=>?_⟩;cases e2;exact⟨o,e,ex.2.1⟩
  .obtain⟨o,_,_,_,e,ex,_⟩:=I.hok p _ hk;refine⟨⟨o,e,ex.1⟩,fun a e2=>?_⟩;cases e2;exact⟨o,e,ex.2.1⟩
|_=>exact L7 ty
def vE(K:W.Frag)(T:String)(r:V->List V->Hp->VK->Prop)(to:TE):TE:=fun σ H Q=>to σ H fun x H1=>lY K T x H1/\r x [] H1 Q
def Ki(K:W.Frag)(T:String)(r:V->List V->Hp->VK->Prop)(to:TE)(t:TA):TE:=fun σ H Q=>to σ H fun x H1=>lY K T x H1/\t σ H1 fun xs H2=>r x xs H2 Q
variable{o e:Expr}{es:List Expr}{to:TE}{t:TA}{name:Str}{apos cpos:Pos}{T id:String}{r:V->List V->Hp->VK->Prop}
theorem xo(pa:OQ T)(slot:Slot T name id)(hty:RC (.builtin id)=pure (.type "method_descriptor"))(hm:fI X id r)(ho:PE X o to)(hbase:Mo o name X.env (eval o X.env)=eval o X.env:=by rfl)(hline:(apos.endLine==cpos.line)=true:=by rfl):PE X (.Call (.Attribute o name apos) [] [] cpos) (vE X.K T r to):=by intro pz s σ H Q I h;refine wpAny_Call_method0_late hbase hline (aH (ho pz s σ H _ I h) fun v s1 ⟨x,H1,I1,r1,ty,q1⟩=>?_);obtain⟨h1,h2⟩:=xH I1 r1 ty;exact⟨T,id,pa,slot,hty,h1,h2,OR rfl (PySem.evalArgs_none (hm pz s1 σ H1 x [] v [] Q I1 r1 .nil q1))⟩
theorem wW(pa:OQ T)(slot:Slot T name id)(hty:RC (.builtin id)=pure (.type "method_descriptor"))(hm:fI X id r)(ho:PE X o to)(ha:PA X (e::es) t)(hbase:Mo o name X.env (eval o X.env)=eval o X.env:=by rfl)(hfew:((backTo cpos (m_ (e::es) X.env)).all (fun x=>! x.1)&&(P3 cpos (Oc [] X.env)).all (fun x=>x.1.isSome)
   && decide ((e::es).length+([]:List Nu).length+(if ([]:List Nu).isEmpty then 0 else 1)<30))=true:=by rfl)(hline:(apos.endLine==cpos.line)=true:=by rfl)(hs:m_ (e::es) X.env=(false,eval e X.env)::m_ es X.env:=by rfl)(hplain:(backTo cpos (m_ es X.env)).any (·.1)=false:=by rfl):PE X (.Call (.Attribute o name apos) (e::es) [] cpos) (Ki X.K T r to t):=by intro pz s σ H Q I h;refine wpAny_Call_method_late hbase hfew hline rfl (aH (ho pz s σ H _ I h) fun v s1 ⟨x,H1,I1,r1,ty,q1⟩=>?_);obtain⟨h1,h2⟩:=xH I1 r1 ty;refine⟨T,id,pa,slot,hty,h1,h2,?_⟩;have hA:=ha cpos pz s1 σ H1 _ I1 q1;rw[hs]at hA ⊢;refine OR (by show(false || (backTo cpos (m_ es X.env)).any (·.1))=false;rw[hplain] <;> rfl) (Calls.evalArgs_plain ?_);exact aH hA fun us s2 ⟨vs,H2,I2,r2,q2⟩=>hm pz s2 σ H2 x vs v us Q I2 r1 r2 q2
end
def BA(X:Cx)(id:String)(r:V->List V->Hp->VK->Prop):Prop:=∀(pz:List (Addr×Obj))(s:f_)(σ:St)(H:Hp)(x:V)(xs:List V)(v:a_)(us:List a_)(Q:VK),Inv X pz σ H s->aq x v->ak xs us->r x xs H Q ->C_ (H_ X.prog X.w) X.A (call (.builtin id) (v::us)) (EP X pz σ Q) X.xe s
theorem ak.one{x:V}{us:List a_}(h:ak [x] us):∃u,us=[u]/\aq x u:=by cases h with
|cons r t=>cases t;exact⟨_,rfl,r⟩
theorem ak.zero:∀{us:List a_},ak [] us->us=[]
|_,.nil=>rfl
theorem ak.eraseIdx:∀{xs:List V}{us:List a_}(i:Nat),ak xs us->ak (xs.eraseIdx i) (us.eraseIdx i)
|_,_,_,.nil=>.nil
|_,_,0,.cons _ t=>t
|_,_,i+1,.cons r t=>.cons r (ak.eraseIdx i t)
theorem ak.reverse{xs:List V}{us:List a_}(h:ak xs us):ak xs.reverse us.reverse:=by induction h with
|nil=>exact .nil
|cons r t ih=>rw[Nh,Nh];exact ak.append ih (.cons r .nil)
section
variable{X:Cx}{pz:List (Addr×Obj)}{σ:St}{H:Hp}{s:f_}{l b:Addr}{xs ys zs:List V}
theorem Inv.lset{its its':List a_}{n:Nat}{f:Array a_->Array a_}{t':Nat}(I:Inv X pz σ H s)(hH:H l=some (.lst xs))(e:s.heap.get? l=some { cls:=.type "list",data:=.seq its.toArray n })(hf:f its.toArray=its'.toArray)(hv:ak ys its')(hz:ys.length<=sizeLine):Inv X pz σ (upd H l (.lst ys)) { s with heap:=s.heap.update l (Lq f),toks:=t' }:=by have q:=PySem.IsL.update e f;rw[hf]at q;refine I.write (x:=l) (e:=l) (by rw[hH];exact trivial) (.inl rfl) (fun b' u hb hu=>(LD s.heap (Lq f) (Mh hb)).trans hu) ⟨_,q⟩ ?_;exact⟨hz,its',_,hv,q⟩
theorem Inv.lnew{its:List a_}{t':Nat}(I:Inv X pz σ H s)(hv:ak ys its)(hz:ys.length<=sizeLine):Inv X pz σ (upd H s.heap.objs.size (.lst ys)) { s with heap:=s.heap.push { cls:=.type "list",data:=.seq its.toArray },toks:=t' }:=I.laid (fun _ _ q=>e_ _ q) (q_ _) ⟨hz,its,0,hv,y_ _ rfl⟩
theorem Inv.fresh(I:Inv X pz σ H s):H s.heap.objs.size=none:=I.hok.fresh (q_ _)
theorem Inv.lstM(I:Inv X pz σ H s)(hH:H l=some (.lst xs)):xs.length<=sizeLine/\∃(its:List a_)(n:Nat),ak xs its/\xs.length=its.length/\s.heap.get? l=some { cls:=.type "list",data:=.seq its.toArray n }:=by obtain⟨z,its,n,r,e⟩:=I.hok l _ hH;exact⟨z,its,n,r,r.length,e⟩
end
section
variable{X:Cx}
def yv:V->List V->Hp->VK->Prop:=fun x vs H Q=>∃l xs y,x=.ref l/\vs=[y]/\H l=some (.lst xs)/\xs.length<sizeLine/\Q .non (upd H l (.lst (xs++[y])))
theorem jF:BA X "list.append" yv:=by intro pz s σ H x vs v us Q I rx rv h;obtain⟨l,xs,y,rfl,rfl,hH,hz,q⟩:=h;cases rx;obtain⟨u,rfl,ru⟩:=rv.one;obtain⟨z,its,n,r,hl,e⟩:=I.lstM hH;refine NY F.slot_list_append ⟨_,e,rfl⟩ F.entry_list_append (F.args_list_append_2 _ _) (PySem.list_append l its.toArray n u (by rw[n_];omega)) ⟨e,?_⟩;refine⟨.non,_,I.lset (its':=its++[u]) hH e (by simp) (r.append (.cons ru .nil)) ?_,rfl,q⟩;rw[I_,MI];omega
def xw:V->List V->Hp->VK->Prop:=fun x vs H Q=>∃l xs,x=.ref l/\vs=[]/\H l=some (.lst xs)/\Q .non (upd H l (.lst []))
theorem GN:BA X "list.clear" xw:=by intro pz s σ H x vs v us Q I rx rv h;obtain⟨l,xs,rfl,rfl,hH,q⟩:=h;cases rx;have hus:=rv.zero;subst hus;obtain⟨z,its,n,r,hl,e⟩:=I.lstM hH;refine NY F.slot_list_clear ⟨_,e,rfl⟩ F.entry_list_clear (F.args_list_clear_1 _) (AutoSeq1.list_clear_list_0 l its.toArray n (by rw[n_];omega)) ⟨e,?_⟩;exact⟨.non,_,I.lset (its':=[]) (ys:=[]) hH e rfl .nil (KN _),rfl,q⟩
end
section
variable{κ:Type}[DecidableEq κ]
def cj(kvs:List (κ×V))(k:κ):Option V:=(kvs.find? fun kv=>decide (kv.1=k)).map (·.2)
def bJ(kvs:List (κ×V))(k:κ)(v:V):List (κ×V):=if (kvs.any fun kv=>decide (kv.1=k))=true then kvs.map (fun kv=>if kv.1=k then(kv.1,v)else kv)else kvs++[(k,v)]
def wG(kvs:List (κ×V))(k:κ):List (κ×V):=kvs.filter fun kv=>decide (kv.1≠k)
theorem pc{p:κ×V}{r:List (κ×V)}{k:κ}(e:p.1=k):cj (p::r) k=some p.2:=by simp[cj,KB,e]
theorem mX{p:κ×V}{r:List (κ×V)}{k:κ}(e:¬ p.1=k):cj (p::r) k=cj r k:=by simp[cj,KB,e]
theorem zu(k:κ):∀kvs:List (κ×V),(kvs.any fun kv=>decide (kv.1=k))=(cj kvs k).isSome
|[]=>rfl
|p::r=>by
  rw[MG];by_cases e:p.1=k
  .simp only[pc e,decide_eq_true e,Bool.true_or,Option.isSome_some]
  .rw[mX e,decide_eq_false e,Bool.false_or];exact zu k r
theorem sW(kvs:List (κ×V))(k:κ)(v:V):(bJ kvs k v).length<=kvs.length+1:=by
 unfold bJ;split
 .rw[l_];omega
 .rw[I_,L5,NF];omega
theorem cF.isSome_eq{o:Option V}{u:Option a_}(r:cF o u):o.isSome=u.isSome:=by cases o with
|none=>cases u with
 |none=>rfl
 |some _=>exact(show False from r).elim
|some _=>cases u with
 |none=>exact(show False from r).elim
 |some _=>rfl
theorem cF.getD{o:Option V}{u:Option a_}{d:V}{d':a_}(r:cF o u)(rd:aq d d'):aq (o.getD d) (u.getD d'):=by cases o with
|none=>cases u with
 |none=>exact rd
 |some _=>exact(show False from r).elim
|some _=>cases u with
 |none=>exact(show False from r).elim
 |some _=>exact r
theorem KV.val{kvs:List (κ×V)}{vs:List (κ×a_)}(r:KV kvs vs)(k:κ):cF (cj kvs k) (Pp vs k):=by
 unfold KV at r
 induction r with
|nil=>exact True.intro
|@cons p q ps qs h t ih=>
  obtain⟨h1,h2⟩:=h;by_cases e:p.1=k
  .have e':q.1=k:=h1.symm.trans e;have b:Pp (q::qs) k=some q.2:=by simp[Pp,KB,e']
   rw[pc e,b];exact h2
  .have e':¬ q.1=k:=fun z=>e (h1.trans z);have b:Pp (q::qs) k=Pp qs k:=by simp[Pp,KB,e']
   rw[mX e,b];exact ih
theorem KV.any{kvs:List (κ×V)}{vs:List (κ×a_)}(r:KV kvs vs)(k:κ):(kvs.any fun kv=>decide (kv.1=k))=vs.any fun kv=>decide (kv.1=k):=by
 unfold KV at r
 induction r with
|nil=>rfl
|cons h t ih=>rw[MG,MG,ih,h.1]
theorem KV.repl{kvs:List (κ×V)}{vs:List (κ×a_)}(r:KV kvs vs)(k:κ){y:V}{u:a_}(ry:aq y u):KV (kvs.map fun kv=>if kv.1=k then(kv.1,y)else kv) (vs.map fun kv=>if kv.1=k then(kv.1,u)else kv):=by
 unfold KV at r ⊢
 induction r with
|nil=>exact .nil
|@cons p q ps qs h t ih=>
  rw[B_,B_];refine .cons ?_ ih;obtain⟨h1,h2⟩:=h;by_cases e:p.1=k
  .rw[if_pos e,if_pos (h1.symm.trans e)];exact⟨h1,ry⟩
  .rw[if_neg e,if_neg (fun z=>e (h1.trans z))];exact⟨h1,h2⟩
theorem KV.put{kvs:List (κ×V)}{vs:List (κ×a_)}(r:KV kvs vs)(k:κ){y:V}{u:a_}(ry:aq y u):KV (bJ kvs k y) (stored vs k u):=by
 unfold bJ stored;rw[r.any k];by_cases e:(vs.any fun kv=>decide (kv.1=k))=true
 .rw[if_pos e,if_pos e];exact r.repl k ry
 .rw[if_neg e,if_neg e];exact Paired.snoc r ⟨rfl,ry⟩
theorem KV.drop{kvs:List (κ×V)}{vs:List (κ×a_)}(r:KV kvs vs)(k:κ):KV (wG kvs k) (without vs k):=by
 unfold KV at r ⊢;unfold wG without
 induction r with
|nil=>exact .nil
|@cons p q ps qs h t ih=>
  obtain⟨h1,h2⟩:=h;rw[K7,K7];by_cases e:p.1=k
  .have a:¬ decide (p.1≠k)=true:=by simp[e]
   have b:¬ decide (q.1≠k)=true:=by simp[h1.symm.trans e]
   rw[if_neg a,if_neg b];exact ih
  .have e':¬ q.1=k:=fun z=>e (h1.trans z);have a:decide (p.1≠k)=true:=by simp[e]
   have b:decide (q.1≠k)=true:=by simp[e']
   rw[if_pos a,if_pos b];exact .cons ⟨h1,h2⟩ ih
theorem KV.length{kvs:List (κ×V)}{vs:List (κ×a_)}(r:KV kvs vs):kvs.length=vs.length:=Paired.length r
end
theorem mo{P:E_}{w:Kz}{k:au}{u:a_}(r:aq (kV k) u):(eu P w).is k u=true:=by cases k with
|inl i=>obtain⟨t,e⟩:=(show ∃t,u=Value.int i t from r);subst e;exact Jb P w i t
|inr x=>obtain⟨t,e⟩:=(show ∃t,u=Value.str x t from r);subst e;exact Jc P w x t
theorem zT{P:E_}{w:Kz}:∀{ks:List au}{us:List a_},ak (ks.map kV) us->ItemsAre (eu P w) ks us
|[],_,r=>by rw[LC]at r;cases r;exact .nil
|k::ks,_,r=>by rw[B_]at r;cases r with
 |cons h t=>exact .cons (mo h) (zT t)
abbrev KT(H:Hp):List (List au×V)->List (List au×Addr×a_)->Prop:=Paired fun p q=>p.1=q.1/\H q.2.1=some (.tup (p.1.map kV))/\aq p.2 q.2.2
theorem KT.val{H:Hp}{kvs:List (List au×V)}{xs:List (List au×Addr×a_)}(r:KT H kvs xs)(k:List au):cF (cj kvs k) ((Qr xs k).map (·.2)):=by induction r with
|nil=>exact True.intro
|@cons p q ps qs h t ih=>
  obtain⟨h1,_,h2⟩:=h;by_cases e:p.1=k
  .have e':q.1=k:=h1.symm.trans e;have b:Qr (q::qs) k=some q.2:=by simp[Qr,KB,e']
   rw[pc e,b];exact h2
  .have e':¬ q.1=k:=fun z=>e (h1.trans z);have b:Qr (q::qs) k=Qr qs k:=by simp[Qr,KB,e']
   rw[mX e,b];exact ih
theorem KT.repl{H:Hp}{kvs:List (List au×V)}{xs:List (List au×Addr×a_)}(r:KT H kvs xs)(k:List au){y:V}{u:a_}(ry:aq y u):KT H (kvs.map fun kv=>if kv.1=k then(kv.1,y)else kv) (xs.map (putAt k u)):=by induction r with
|nil=>exact .nil
|@cons p q ps qs h t ih=>
  rw[B_,B_];refine .cons ?_ ih;obtain⟨h1,h2,h3⟩:=h;unfold putAt;by_cases e:p.1=k
  .rw[if_pos e,if_pos (h1.symm.trans e)];exact⟨h1,h2,ry⟩
  .rw[if_neg e,if_neg (fun z=>e (h1.trans z))];exact⟨h1,h2,h3⟩
theorem KT.put{H:Hp}{kvs:List (List au×V)}{xs:List (List au×Addr×a_)}(r:KT H kvs xs)(k:List au){b:Addr}{y:V}{u:a_}(hb:H b=some (.tup (k.map kV)))(ry:aq y u):KT H (bJ kvs k y) (storedH xs k b u):=by
 have e:(kvs.any fun kv=>decide (kv.1=k))=(Qr xs k).isSome:=by rw[zu,(r.val k).isSome_eq,Od]
 unfold bJ storedH;rw[e];by_cases q:(Qr xs k).isSome=true
 .rw[if_pos q,if_pos q];exact r.repl k ry
 .rw[if_neg q,if_neg q];exact Paired.snoc r ⟨rfl,hb,ry⟩
theorem KT.keeps{H H':Hp}{kvs:List (List au×V)}{xs:List (List au×Addr×a_)}(r:KT H kvs xs)(ht:∀b ys,H b=some (.tup ys)->H' b=some (.tup ys)):KT H' kvs xs:=Paired.mapP r fun _ _ z=>⟨z.1,ht _ _ z.2.1,z.2.2⟩
section
variable{P:E_}{w:Kz}{H:Hp}{h:Heap}{a:Addr}
theorem wU{u:HO}(ok:cn P w H h)(e:Rd H a u):bx P w H h a u:=e.ok ok
theorem kZ{kvs:List (au×V)}(ok:cn P w H h)(e:Rd H a (.dK kvs)):kvs.length<=sizeLine/\(a==MA)=false/\∃vs,KV kvs vs/\h.DictOf (eu P w) a vs:=show bx P w H h a (.dK kvs)from wU ok e
theorem Cw{kvs:List (au×V)}(ok:cn P w H h)(e:H a=some (.dK kvs)):kvs.length<=sizeLine/\(a==MA)=false/\∃vs,KV kvs vs/\h.DictOf (eu P w) a vs:=kZ ok (.inl e)
theorem mE{ks:List au}(ok:cn P w H h)(e:H a=some (.tup (ks.map kV))):(Pn (eu P w)).is h ks a:=by
 obtain⟨_,its,r,⟨o,h1,h2,n,h3⟩,_⟩:=(show bx P w H h a (.tup (ks.map kV))from ok a _ e)
 exact⟨o,its.toArray,n,h1,h2,h3,by simpa using zT r⟩
theorem mf{kvs:List (List au×V)}(ok:cn P w H h)(e:Rd H a (.dT kvs)):kvs.length<=sizeLine/\(a==MA)=false /\∃xs,KT H kvs xs/\h.DictOfH (Pn (eu P w)) a xs:=by
 obtain⟨z,y,xs,r,o,es,ep,h1,h2,h3,h4,h5⟩:=(show bx P w H h a (.dT kvs)from wU ok e)
 refine⟨z,y,xs,r,o,es,ep,h1,h2,h3,h4,fun x hx=>?_,h5⟩;have all:∀{l:List (List au×V)}{m:List (List au×Addr×a_)},KT H l m->∀x∈m,(Pn (eu P w)).is h x.1 x.2.1:=by
  intro l m q
  induction q with
 |nil=>intro x hx;exact nomatch hx
 |@cons p q ps qs hq t ih=>
   intro x hx;rcases z_.mp hx with e|hx
   .subst e;exact mE ok (by rw[<-hq.1];exact hq.2.1)
   .exact ih x hx
 exact all r x hx
theorem Cy{kvs:List (List au×V)}(ok:cn P w H h)(e:H a=some (.dT kvs)):kvs.length<=sizeLine/\(a==MA)=false /\∃xs,KT H kvs xs/\h.DictOfH (Pn (eu P w)) a xs:=mf ok (.inl e)
end
def dB(H:Hp)(a:Addr)(y:V)(r:Option V):Prop:=(∃kvs k,Rd H a (.dK kvs)/\y=kV k/\r=cj kvs k)\/∃kvs k b,Rd H a (.dT kvs)/\y=.ref b/\H b=some (.tup (k.map kV))/\r=cj kvs k
def fK(H:Hp)(a:Addr)(y v:V)(H':Hp):Prop:=(∃kvs k,H a=some (.dK kvs)/\y=kV k/\kvs.length<sizeLine/\H'=upd H a (.dK (bJ kvs k v))) \/∃kvs k b,H a=some (.dT kvs)/\y=.ref b/\H b=some (.tup (k.map kV))/\kvs.length<sizeLine/\H'=upd H a (.dT (bJ kvs k v))
theorem dB.k{H:Hp}{a:Addr}{kvs:List (au×V)}{k:au}(e:H a=some (.dK kvs)):dB H a (kV k) (cj kvs k):=.inl ⟨kvs,k,.inl e,rfl,rfl⟩
theorem dB.t{H:Hp}{a b:Addr}{kvs:List (List au×V)}{k:List au}(e:H a=some (.dT kvs))(eb:H b=some (.tup (k.map kV))):dB H a (.ref b) (cj kvs k):=.inr ⟨kvs,k,b,.inl e,rfl,eb,rfl⟩
theorem fK.k{H:Hp}{a:Addr}{kvs:List (au×V)}{k:au}{v:V}(e:H a=some (.dK kvs))(hl:kvs.length<sizeLine):fK H a (kV k) v (upd H a (.dK (bJ kvs k v))):=.inl ⟨kvs,k,e,rfl,hl,rfl⟩
theorem fK.t{H:Hp}{a b:Addr}{kvs:List (List au×V)}{k:List au}{v:V}(e:H a=some (.dT kvs))(eb:H b=some (.tup (k.map kV)))(hl:kvs.length<sizeLine):fK H a (.ref b) v (upd H a (.dT (bJ kvs k v))):=.inr ⟨kvs,k,b,e,rfl,eb,hl,rfl⟩
section
variable{X:Cx}{pz:List (Addr×Obj)}{σ:St}{H:Hp}{s:f_}{a:Addr}{y v:V}{u r:a_}{o:Option V}{A:KM}{E:a_->f_->Prop}
theorem Inv.big(I:Inv X pz σ H s):MA<s.heap.objs.size:=by have h:Lu<s.heap.objs.size:=(I.mod.glob.keeps I.bk).lt;exact Ni (by decide) h
theorem HW{Q:a_->f_->Prop}(hu:A.units+1<Mq)(I:Inv X pz σ H s)(g:dB H a y (some v))(ry:aq y u)(h:∀w' s',Inv X pz σ H s'->aq v w'->Q w' s'):C_ (H_ X.prog X.w) A (OM (.ref a) u) Q E s:=by
 rcases g with⟨kvs,k,e,ey,l⟩|⟨kvs,k,b,e,ey,eb,l⟩
 .subst ey;obtain⟨z,hd,vs,rel,dd⟩:=kZ I.hok e;obtain⟨w',hw,rw'⟩:=cF.some_of (v:=v) (o:=Pp vs k) (by rw[l];exact rel.val k);exact wpAny_getItem_of (mo ry) dd.mapOf hw (h w' _ (I.tok _) rw')
 .subst ey;cases(show u=Value.ref b from ry);obtain⟨z,hd,xs,rel,dd⟩:=mf I.hok e;obtain⟨w',hw,rw'⟩:=cF.some_of (v:=v) (o:=(Qr xs k).map (·.2)) (by rw[l];exact rel.val k);obtain⟨p,hp,hp2⟩:=Option.map_eq_some_iff.mp hw;refine wpAny_getItem_heap (M8 hu) (mE I.hok eb) dd hp ?_;rw[hp2];exact h w' _ (I.tok _) rw'
theorem vU{Q:a_->f_->Prop}(hu:A.units+1<Mq)(I:Inv X pz σ H s)(g:dB H a y o)(ry:aq y u)(h:∀s',Inv X pz σ H s'->Q (.bool o.isSome) s'):C_ (H_ X.prog X.w) A (KQ .In u (.ref a)) Q E s:=by
 rcases g with⟨kvs,k,e,ey,l⟩|⟨kvs,k,b,e,ey,eb,l⟩
 .subst ey;obtain⟨z,hd,vs,rel,dd⟩:=kZ I.hok e;refine wpAny_in_of (mo ry) hd dd.mapOf ?_;rw[<-(rel.val k).isSome_eq,<-l];exact h _ (I.tok _)
 .subst ey;cases(show u=Value.ref b from ry);obtain⟨z,hd,xs,rel,dd⟩:=mf I.hok e;refine wpAny_in_heap (M8 hu) (mE I.hok eb) hd dd ?_;have q:=(rel.val k).isSome_eq;rw[Od]at q;rw[<-q,<-l];exact h _ (I.tok _)
theorem EU{Q:a_->f_->Prop}(hu:A.units+1<Mq)(I:Inv X pz σ H s)(g:dB H a y o)(ry:aq y u)(h:∀s',Inv X pz σ H s'->Q (.bool (! o.isSome)) s'):C_ (H_ X.prog X.w) A (KQ .NotIn u (.ref a)) Q E s:=by
 rcases g with⟨kvs,k,e,ey,l⟩|⟨kvs,k,b,e,ey,eb,l⟩
 .subst ey;obtain⟨z,hd,vs,rel,dd⟩:=kZ I.hok e;refine wpAny_notIn_of (mo ry) hd dd.mapOf ?_;rw[<-(rel.val k).isSome_eq,<-l];exact h _ (I.tok _)
 .subst ey;cases(show u=Value.ref b from ry);obtain⟨z,hd,xs,rel,dd⟩:=mf I.hok e;refine wpAny_notIn_heap (M8 hu) (mE I.hok eb) hd dd ?_;have q:=(rel.val k).isSome_eq;rw[Od]at q;rw[<-q,<-l];exact h _ (I.tok _)
theorem yr{h':Heap}{t':Nat}{ob:HO}(I:Inv X pz σ H s)(mu:nP (H a))(hs:NM a s.heap h')(he:∃q,h'.get? a=some q)(new:bx X.prog X.w (upd H a ob) h' a ob):Inv X pz σ (upd H a ob) { s with heap:=h',toks:=t' }:=I.write (x:=a) (e:=a) mu (.inl rfl) (fun b q hb z=>(hs.2 b hb).trans z) he new
theorem Dv{P:E_}{w:Kz}{H':Hp}{h':Heap}{kvs:List (au×V)}{vs:List (au×a_)}(z:kvs.length<=sizeLine)(hd:(a==MA)=false)(rel:KV kvs vs)(dd:h'.DictOf (eu P w) a vs):bx P w H' h' a (.dK kvs):=⟨z,hd,vs,rel,dd⟩
theorem HX{H':Hp}{Q:Unit->f_->Prop}(hu:A.units+1<Mq)(I:Inv X pz σ H s)(g:fK H a y v H')(ry:aq y u)(rv:aq v r)(h:∀s',Inv X pz σ H' s'->Q () s'):C_ (H_ X.prog X.w) A (Ry (.ref a) u r) Q E s:=by
 rcases g with⟨kvs,k,e,ey,l,eH⟩|⟨kvs,k,b,e,ey,eb,l,eH⟩
 .subst ey eH;obtain⟨z,hd,vs,rel,dd⟩:=Cw I.hok e;have hz:vs.length<=sizeLine:=by rw[<-rel.length];exact z
  have hl:(bJ kvs k v).length<=sizeLine:=by have:=sW kvs k v;omega
  refine wpAny_setItem_pairs (hsz:=hz) (mo ry) dd fun h' dd' hs=>h _ ?_;have he:∃q,h'.get? a=some q:=let⟨q,_,_,hq,_⟩:=dd';⟨q,hq⟩;exact yr I (by rw[e];exact True.intro) hs he (Dv hl hd (rel.put k rv) dd')
 .subst ey eH;cases(show u=Value.ref b from ry);obtain⟨z,hd,xs,rel,dd⟩:=Cy I.hok e;have hz:xs.length<=sizeLine:=by rw[<-Paired.length rel];exact z
  have hl:(bJ kvs k v).length<=sizeLine:=by have:=sW kvs k v;omega
  refine wpAny_setItem_heap (hsz:=hz) (M8 hu) (mE I.hok eb) dd fun h' dd' hs=>h _ ?_;obtain⟨q,es,ep,hq,h2,h3,h4,_,h5⟩:=dd';refine yr I (by rw[e];exact True.intro) hs ⟨q,hq⟩ ⟨hl,hd,_,(rel.put k eb rv).keeps fun c ys ec=>?_,q,es,ep,hq,h2,h3,h4,h5⟩;rw[bg (Cc ec e (fun z=>nomatch z))];exact ec
end
section
variable{X:Cx}{pz:List (Addr×Obj)}{σ:St}{H:Hp}{s:f_}{a:Addr}{kvs:List (au×V)}{k:au}{u:a_}{A:KM}{E:a_->f_->Prop}
theorem BI{Q:a_->f_->Prop}(I:Inv X pz σ H s)(e:Rd H a (.dK kvs))(h:∀t s',Inv X pz σ H s'->Q (.int kvs.length t) s'):C_ (H_ X.prog X.w) A (call (.builtin "len") [.ref a]) Q E s:=by obtain⟨z,hd,vs,rel,dd⟩:=kZ I.hok e;refine call_len_dict hd dd (by rw[<-rel.length];rw[K1]at z;omega) ?_;rw[<-rel.length];exact h _ _ (I.tok _)
end
theorem Jq{X:Cx}{pz:List (Addr×Obj)}{σ:St}{H:Hp}{s:f_}{a:Addr}{y:V}{o:Option V}(I:Inv X pz σ H s)(g:dB H a y o):s.TypeIs (.ref a) "dict" := by
 rcases g with⟨kvs,k,e,_,_⟩|⟨kvs,k,b,e,_,_,_⟩
 .obtain⟨_,_,vs,_,dd⟩:=kZ I.hok e;exact dd.typeIs
 .obtain⟨_,_,xs,_,dd⟩:=mf I.hok e;exact dd.typeIs
theorem Gc{P:E_}{w:Kz}{H:Hp}(h:Heap)(hb:MA<h.objs.size):bx P w H (h.push { cls:=.type "dict",data:=.dict #[] }) h.objs.size (.dK []):=⟨KN _,beq_eq_false_iff_ne.mpr (Mh (D_ hb)),[],.nil,Heap.DictOf.new h⟩
def DF:TE:=fun _ H Q=>∀p,H p=none->Q (.ref p) (upd H p (.dK []))
section
variable{X:Cx}{pos:Pos}
theorem GV:PE X (.Dict [] [] pos) DF:=fun pz s σ H Q I h=>wpAny_Dict_empty ⟨.ref s.heap.objs.size,_,I.laid (a:=s.heap.objs.size) (o:=.dK []) (t':=s.toks) (fun _ _ q=>e_ _ q) (q_ _) (Gc s.heap I.big),rfl,h _ (I.hok.fresh (q_ _))⟩
end
def jz(kvs more:List (au×V)):List (au×V):=more.foldl (fun acc kv=>bJ acc kv.1 kv.2) kvs
theorem KV.merge:∀{more:List (au×V)}{rs:List (au×a_)}{kvs:List (au×V)}{vs:List (au×a_)},KV more rs->KV kvs vs->KV (jz kvs more) (merged vs rs):=by
 intro more rs kvs vs r;unfold KV at r
 induction r generalizing kvs vs with
|nil=>intro q;exact q
|@cons p q ps qs h t ih=>
  intro r0;have e:KV (bJ kvs p.1 p.2) (stored vs q.1 q.2):=by have:=r0.put p.1 h.2;rw[<-h.1];exact this
  exact ih e
theorem Bb:∀(more kvs:List (au×V)),(jz kvs more).length<=kvs.length+more.length
|[],kvs=>by show kvs.length<=kvs.length+0;omega
|p::r,kvs=>by have h1:=Bb r (bJ kvs p.1 p.2);have h2:=sW kvs p.1 p.2;show(jz (bJ kvs p.1 p.2) r).length<=_;rw[L5];omega
structure M1(X:Cx)(o:Expr)(m:Str)(apos:Pos)(e:Expr)(cpos:Pos):Prop where
 base:Mo o m X.env (eval o X.env)=eval o X.env
 few:((backTo cpos (m_ [e] X.env)).all (fun x=>! x.1)&&(P3 cpos (Oc [] X.env)).all (fun x=>x.1.isSome)
  && decide (([e]:List Expr).length+([]:List Nu).length+(if ([]:List Nu).isEmpty then 0 else 1)<30))=true
 line:(apos.endLine==cpos.line)=true
 trees:backTo cpos (m_ [e] X.env)=[(false,eval e X.env)]
structure M2(X:Cx)(o:Expr)(m:Str)(apos:Pos)(e f:Expr)(cpos:Pos):Prop where
 base:Mo o m X.env (eval o X.env)=eval o X.env
 few:((backTo cpos (m_ [e,f] X.env)).all (fun x=>! x.1)&&(P3 cpos (Oc [] X.env)).all (fun x=>x.1.isSome)
  && decide (([e,f]:List Expr).length+([]:List Nu).length+(if ([]:List Nu).isEmpty then 0 else 1)<30))=true
 line:(apos.endLine==cpos.line)=true
 trees:backTo cpos (m_ [e,f] X.env)=[(false,eval e X.env),(false,eval f X.env)]
end L2
namespace Att
open PySem PySem.W PySem.Calls PyProof.Rows
theorem JQ{P:Params}{h:Heap}:∀(ns:List Int)(vs:List a_),WellAll P h vs (ns.map WData.int)->MU vs ns:=by
 intro ns
 induction ns with
|nil=>intro vs w;rw[LC]at w;cases w;exact .nil
|cons n ns ih=>intro vs w;rw[B_]at w;cases w with
 |cons a b=>cases a;exact .cons _ _ (ih _ b)
theorem Iy{l:OpenLaw}{n:Nat}(hn:l.most=some n){P:Params}{h:Heap}{args:List WData}{vals:List a_}(hpre:l.row.toRowW.claim.pre args=true)(hwl:WellAll P h vals args):∃a vs ns,vals=[Value.ref a]/\args=[WData.list (ns.map WData.int)]/\h.get? a=some { cls:=.type "list",data:=.seq vs.toArray }/\MU vs ns/\ns.length<=n:=by
 have hsh:WShape.hasAll [] args [.list .int]=true:=(pre_splitW hpre).1;have hc:l.pre.holds [] { args:=args }=true:=(pre_splitW hpre).2;obtain⟨d,r,rfl,h1,h2⟩:=hasAllW_cons hsh;obtain rfl:=hasAllW_nil h2;obtain⟨xs,rfl,h3⟩:=hasW_list h1;obtain⟨ns,rfl⟩:=items_int h3;have hlen:ns.length<=n:=by
  unfold OpenLaw.pre at hc;have h4:(WTm.not (.lt (.lit (.int (n:Int))) (.len (.arg 0)))).holds [] { args:=[.list (ns.map .int)] }=true:=by have h4:=(holds_andW hc).1;rw[hn]at h4;exact h4
  have h5:=condW_of h4 (w_not (w_lt w_lit (w_len_list (w_arg rfl))));rw[l_]at h5;refine Nat.le_of_not_lt fun q=>?_;have q':(n:Int)<((ns.length:Nat):Int):=by omega
  first
   |(rw[decide_eq_true q']at h5;exact absurd h5 (by decide))
   |(simp at h5;omega)
 cases hwl with
|cons w1 w2=>cases w2;cases w1 with
 |list ho hall=>exact⟨_,_,ns,rfl,rfl,ho,JQ ns _ hall,hlen⟩
theorem IE(l:OpenLaw)(args:List WData):l.row.toRowW.claim.post args (.bool true) args=true:=
 postW_of (r:=l.row.toRowW) (X:=(true==true))
  (show R0 [] (.bool true) .bool=true by first|rfl|decide|simp[R0,WShape.arms,WShape.armsAll])
  (show(WTm.eq .res (.lit (.bool true))).value [] { args:=args,res:=some (.bool true),after:=args }=some (.bool (true==true))from w_eq_bool (w_res rfl) w_lit) rfl
theorem attach_call{l:OpenLaw}{n:Nat}{q:E_}{loose:List Str}{XP:(Str->Option a_)->Heap->Prop}{YP:Kz->Heap->Prop}{d:DefRec}(hn:l.most=some n)(hdf:d.params.defaults=[])(call:∀(w:Kz)(s₀ s₁:f_)(mg mb:Str->Option a_)(fa:Addr)(o:Obj)(pm cd doc:a_)(a:Addr)(vs:List a_)(ns:List Int),Ground q loose [] XP w s₀ mg mb s₁.heap->YP w s₁.heap ->s₁.heap.get? fa=some o->o.data=.func (docDef d.name d.params d.body d.scope pm cd doc)->s₁.heap.CodeRec cd d.name->mg d.name=some (.ref fa) ->s₁.heap.get? a=some { cls:=.type "list",data:=.seq vs.toArray }->MU vs ns->ns.length<=n->s₁.gens = #[] ->NN (H_ l.prog w) OS (.call (.ref fa) ⟨[.ref a],[]⟩) (fun r s'=>r=.ok (.ret (.bool true))/\OldK s₁.heap s'.heap/\s'.os=s₁.os/\Nt s'.gens) s₁):WalkO q loose XP YP l.row.toRowW d [] (fun f vs=>QN f vs):=by intro w s₀ s₁ mg mb G Y fa o pm cd doc dV kV ho hd hcd hD hmg hg args vals as hpre hlay hrd hwl hlo;obtain rfl:dV=.none:=Dflts.none hD hdf;obtain rfl:kV=.none:=Dflts.noKw hD;obtain⟨a,vs,ns,rfl,rfl,hobj,hints,hlen⟩:=Iy hn hpre hwl;refine enter_call (PV (call w s₀ s₁ mg mb fa o pm cd doc a vs ns G Y ho (fd_plain hd) hcd hmg hobj hints hlen hg) fun r s' hq=>?_);obtain⟨rfl,h2,h3,h4⟩:=hq;exact⟨.inl ⟨.bool true,.bool true,[],rfl,fun _=>rfl,.bool true,IE l _,fun _=>⟨List.Pairwise.nil,fun _ hm=>(nomatch hm)⟩⟩,h2,h3,h4⟩
end Att
namespace L2
open PySem PySem.Spec PyProof.Rows
theorem zM:∀{vs:List a_}{ns:List Int},MU vs ns->ak (ns.map V.int) vs
|_,_,.nil=>.nil
|_,_,.cons n t h=>.cons ⟨t,rfl⟩ (zM h)
def kU(H:Hp):Prop:=∀b,H b=none\/∃o xs,H b=some (.frz o (.lst xs))
theorem Hn{P:E_}{w:Kz}{K:W.Frag}{mg mb:Str->Option a_}{CX:fZ}{k:Nat}{fa a:Addr}{fd:LK}{x:Str}{sp:Sp}{s₁:f_}{vs:List a_}{ns:List Int}(KX:K.In s₁.heap)(hns:s₁.heap.Ns Lu mg)(hb:s₁.heap.Ns QG mb)(hbb:∀x:Str,x≠"__name__"->mb x=MT x)(hlim:s₁.heap.NoLimit)(hg:s₁.gens = #[])(ha:s₁.heap.get? a=some { cls:=.type "list",data:=.seq vs.toArray })(hi:MU vs ns)(hl:ns.length<=sizeLine)(hr:Room k OS)(F:∀base:Heap,K.In base->base.Ns Lu mg->FnOk P w K mg base CX k fa fd [x] sp)(hbind:∀(s:f_)(u:a_),Po s fd ⟨[u],[]⟩ [(x,u)])(hsp:∀H:Hp,kU H->aO K H a (ns.map V.int)->sp [.ref a] H (fun v _=>v=.bl true) fun _ _ _=>False)(hCX:∀H e s',CX [] H s₁ (fun _ _ _=>False) e s'->False):NN (H_ P w) OS (.call (.ref fa) ⟨[.ref a],[]⟩) (fun r s'=>r=.ok (.ret (.bool true))/\OldK s₁.heap s'.heap/\s'.os=s₁.os/\Nt s'.gens) s₁:=by
 have rv:=zM hi;have lenV:=hi.length;have core:∀H:Hp,kU H->aO K H a (ns.map V.int)->cn P w H s₁.heap->(∀b,H b≠none->b=a)->(H a≠none->K.lookup a=none) ->NN (H_ P w) OS (.call (.ref fa) ⟨[.ref a],[]⟩) (fun r s'=>r=.ok (.ret (.bool true))/\OldK s₁.heap s'.heap/\s'.os=s₁.os/\Nt s'.gens) s₁:=by
  intro H hO hS hok hA hK;have base_of:∀{b:Addr}{o:Obj},s₁.heap.get? b=some o->H b=none->(dQ s₁.heap H).get? b=some o:=fun e n=>Gg e n;have noA:∀{b:Addr}{o:Obj}{es:Array DictEntry}{ep:Nat},s₁.heap.get? b=some o->o.data=.dict es ep->H b=none:=fun{b o es ep} e d=>by cases q:H b with
  |none=>rfl
  |some u=>have e':b=a:=hA b (by rw[q];simp);subst e';rw[ha]at e;cases e;have d':Data.seq vs.toArray _=Data.dict es ep:=d;cases d'
  have nsK:∀{b:Addr}{m:Str->Option a_},s₁.heap.Ns b m->(dQ s₁.heap H).Ns b m:=fun{b m} ⟨o,es,ep,e,d,r⟩=>⟨o,es,ep,base_of e (noA e d),d,r⟩
  have hKb:K.In (dQ s₁.heap H):=fun b o e=>base_of (KX b o e) (by cases q:H b with
  |none=>rfl
  |some u=>have e':b=a:=hA b (by rw[q];simp);subst e';rw[hK (by rw[q];simp)]at e;cases e)
  have hM:Mod K mg (dQ s₁.heap H):=⟨hKb,nsK hns,⟨mb,nsK hb,hbb⟩,let⟨mc,h1,h2⟩:=hlim;⟨mc,nsK h1,h2⟩⟩
  have e0:Env0 P w K mg (dQ s₁.heap H) OS [] s₁ H:=⟨rfl,hM,fun b o e=>Ex e,Nf (HL _ _),trivial,fun b hb=>absurd (show b∈([]:List Addr)from hb) (by simp),hok,.of_eq hg⟩
  refine PV ((F _ hKb (nsK hns)).run OS [] s₁ H ⟨[.ref a],[]⟩ [.ref a] [.ref a] _ _ hr e0 (hbind s₁ (.ref a)) (.cons rfl .nil) (hsp H hO hS)) fun r s' h=>?_;cases r with
 |error e=>exact(hCX H e s' h).elim
 |ok fl=>cases fl with
  |next=>exact L7 h
  |brk=>exact L7 h
  |cont=>exact L7 h
  |ret u=>obtain⟨v,H',os,bare,un,hok',r',q⟩:=h;have q':v=.bl true:=q;subst q';obtain rfl:u=Value.bool true:=r';refine⟨rfl,OldK.of_keep fun b o e=>?_,os,bare⟩;cases q:H b with
   |none=>exact un.keep b o e q (by intro z;exact absurd (show b∈([]:List Addr)from z) (by simp)) (by simp)
   |some u=>
     rcases hO b with z|⟨ob,xs,z⟩
     .rw[q]at z;cases z
     .have z2:=un.frzs b ob _ z;obtain⟨e1,_⟩:=hok b _ z;obtain⟨e2,_⟩:=hok' b _ z2;rw[e]at e1;cases e1;exact e2
 cases hk:K.lookup a with
|some o=>have e:=KX a o hk;rw[ha]at e;cases e;refine core (fun _=>none) (fun _=>.inl rfl) (.inr ⟨_,vs.toArray,_,hk,rfl,rfl,rfl,by rw[n_,lenV];exact hl,by simpa using rv⟩) (fun b u z=>by have z':(none:Option HO)=some u:=z;cases z') (fun b z=>absurd rfl z) fun z=>absurd rfl z
|none=>
  refine core (fun b=>if b=a then some (.frz { cls:=.type "list",data:=.seq vs.toArray } (.lst (ns.map V.int)))else none) (fun b=>?_) (.inl (.inr ⟨{ cls:=.type "list",data:=.seq vs.toArray },if_pos rfl⟩)) (fun b u z=>?_) (fun b z=>?_) fun _=>hk
  .by_cases hb:b=a
   .exact .inr ⟨_,_,if_pos hb⟩
   .exact .inl (if_neg hb)
  .by_cases hb:b=a
   .have z':=(if_pos hb).symm.trans z;cases z';subst hb;exact⟨ha,by rw[l_];exact hl,vs,_,rv,ha⟩
   .have z':=(if_neg hb).symm.trans z;cases z'
  .by_cases hb:b=a
   .exact hb
   .exact absurd (if_neg hb) z
abbrev aJ{K:W.Frag}{h:Heap}(_:K.In h):W.Frag:=K
theorem i7{l:W.OpenLaw}{n k:Nat}{q:E_}{loose:List Str}{XP:(Str->Option a_)->Heap->Prop}{YP:Kz->Heap->Prop}{d:DefRec}{K:Params->W.Frag}{CX:Kz->fZ}{sp:Kz->Sp}{x:Str}(hn:l.most=some n)(hn2:n<=sizeLine)(hdf:d.params.defaults=[])(hr:Room k OS)(hY:∀(w:Kz)(h:Heap),YP w h->(K w.params).In h)(F:∀(w:Kz)(mg:Str->Option a_)(fa:Addr)(h:Heap),(K w.params).In h->h.Ns Lu mg->mg d.name=some (.ref fa) ->∃fd:LK,(∀(s:f_)(u:a_),Po s fd ⟨[u],[]⟩ [(x,u)]) /\∀base:Heap,(K w.params).In base->base.Ns Lu mg->FnOk l.prog w (K w.params) mg base (CX w) k fa fd [x] (sp w))(hsp:∀(w:Kz)(H:Hp)(a:Addr)(ns:List Int),ns.length<=n->kU H->aO (K w.params) H a (ns.map V.int)->sp w [.ref a] H (fun v _=>v=.bl true) fun _ _ _=>False)(hCX:∀(w:Kz)(H:Hp)(s:f_)(e:a_)(s':f_),CX w [] H s (fun _ _ _=>False) e s'->False):W.WalkO q loose XP YP l.row.toRowW d [] (fun f vs=>QN f vs):=by refine Att.attach_call hn hdf fun w s₀ s₁ mg mb fa o pm cd doc a vs ns G Y ho hd hcd hmg hobj hints hlen hg=>?_;have KX:=hY w _ Y;obtain⟨fd,hb,hF⟩:=F w mg fa _ KX G.T.g hmg;exact Hn KX G.T.g G.T.b G.T.builtins G.T.nolimit hg hobj hints (KF hlen hn2) hr hF hb (fun H hO hS=>hsp w H a ns hlen hO hS) fun H e s'=>hCX w H s₁ e s'
def gJ(s:Stmt):Arguments:=match s with
|.FunctionDef _ a _ _ _ _ _ _ _ _=>a
|_=>{ posonlyargs:=[],args:=[],vararg:=none,kwonlyargs:=[],kw_defaults:=[],kwarg:=none,defaults:=[] }
def en(s:Stmt):List Stmt:=match s with
|.FunctionDef _ _ b _ _ _ _ _ _ _=>b
|_=>[]
def aw(s:Stmt):MO:=match s with
|.FunctionDef _ _ _ _ _ _ sc _ _ _=>sc
|_=>{ kind:=.function,names:=[],isGenerator:=false,isCoroutine:=false }
abbrev bQ:fZ:=fun _ _ _ _ _ _=>False
abbrev E0:XK:=fun _ _ _=>False
theorem qQ{X:Cx}:qR bQ X E0:=fun _ _ _ _ _ _ _ h=>h.elim
structure Fun(K:W.Frag)(x qual:Str)(st:Stmt)(f:Addr)(fd:LK):Prop where
 ex:∃(oc:a_)(od:Option Addr)(kV doc pm:a_)(an:Option Addr)(cdv ct:a_)(osl:Array (Option a_)),fd=W.fnOf x qual (gJ st) (en st) (aw st) .none kV doc pm an cdv ct/\K.lookup f=some ⟨oc,od,.func fd,osl⟩/\W.codeIn K cdv qual=true
 kp:W.keepIn K (.ref f)=true
section
variable{P:E_}{w:Kz}{K:W.Frag}{mg:Str->Option a_}{base:Heap}
theorem Fun.ok{x qual:Str}{st:Stmt}{f:Addr}{fd:LK}{N ps:List Str}{k:Nat}{sp:Sp}(F:Fun K x qual st f fd)(S:FnScope N ps (aw st))(len:∀vs H Q E,sp vs H Q E->vs.length=ps.length)(hbody:∀(cdv:a_)(A:KM)(outer:List Env)(s:f_)(H:Hp)(vs:List V)(Q:VK)(E:XK),Room k (A.deeper (Np qual (aw st) s.heap.objs.size f cdv))->sp vs H Q E ->∃t,dU (aS bQ P w K mg base N qual (aw st) f cdv A outer s H E).nox (en st) t/\t { nx:=fun _ H'=>Q .non H',rt:=Q } (bA N vs) H):FnOk P w K mg base bQ (k+1) f fd ps sp:=by obtain⟨oc,od,kV,doc,pm,an,cdv,ct,osl,rfl,lk,hcd⟩:=F.ex;refine wA lk hcd S len fun A outer s H vs Q E hr hsp=>?_;obtain⟨t,h,q⟩:=hbody cdv A outer s H vs Q E hr hsp;exact⟨t,h.nox,q⟩
theorem Fun.binds{x qual:Str}{st:Stmt}{f:Addr}{fd:LK}{ps:List Str}(F:Fun K x qual st f fd)(h:∀(kV doc pm:a_)(an:Option Addr)(cdv ct:a_)(us:List a_),us.length=ps.length->Pd (W.fnOf x qual (gJ st) (en st) (aw st) .none kV doc pm an cdv ct) ⟨us,[]⟩=pure (ps.zip us)):gE K fd ps []:=by obtain⟨oc,od,kV,doc,pm,an,cdv,ct,osl,rfl,lk,hcd⟩:=F.ex;exact .all (h kV doc pm an cdv ct)
theorem Da{x qual:Str}{st:Stmt}{f:Addr}{oc:a_}{od an:Option Addr}{osl:Array (Option a_)}{kV doc pm cdv ct:a_}(l:K.lookup f=some ⟨oc,od,.func (W.fnOf x qual (gJ st) (en st) (aw st) .none kV doc pm an cdv ct),osl⟩)(c:W.codeIn K cdv qual=true)(k:W.keepIn K (.ref f)=true):Fun K x qual st f (W.fnOf x qual (gJ st) (en st) (aw st) .none kV doc pm an cdv ct):=⟨⟨oc,od,kV,doc,pm,an,cdv,ct,osl,rfl,l,c⟩,k⟩
end
theorem jV{A:KM}{k:Nat}(hr:Room k A):A.units+1<Mq:=PH (Nat.add_le_add_left (by decide:1<=64) _) hr.units
section
variable{X:Cx}
theorem GG:dW X (.builtin "len") (fun xs H Q=>∃a kvs,xs=[V.ref a]/\Rd H a (.dK kvs)/\Q (.int kvs.length) H):=by intro pz s σ H xs us Q I r h;obtain⟨a,kvs,rfl,ha,q⟩:=h;obtain⟨u,rfl,ru⟩:=fN r;cases ru;exact BI I ha fun t s' I'=>⟨.int kvs.length,H,I',⟨t,rfl⟩,q⟩
end
def dA(H H':Hp):Prop:=∀b o,H b=some o->H' b=some o
theorem dA.refl(H:Hp):dA H H:=fun _ _ h=>h
theorem dA.trans{H H1 H2:Hp}(a:dA H H1)(b:dA H1 H2):dA H H2:=fun c o h=>b c o (a c o h)
theorem dA.free{H H':Hp}(e:dA H H'){l:Addr}(h:H' l=Option.none):H l=Option.none:=by cases q:H l with
|none=>rfl
|some o=>rw[e l o q]at h;cases h
theorem dA.seq{K:W.Frag}{H H':Hp}{a:Addr}{xs:List V}(e:dA H H')(h:aO K H a xs):aO K H' a xs:=by
 rcases h with(h|⟨o,h⟩)|h
 .exact .inl (.inl (e _ _ h))
 .exact .inl (.inr ⟨o,e _ _ h⟩)
 .exact .inr h
end L2
end
namespace DL
open PySem
section
open PySem.SeqAt
open PySem.AutoSeq1 (wpAny_loadPart')
open PySem.MeetsSeq PySem.MeetsSeq2 PySem.MeetsSeq3
def qX(items:Array a_)(x:a_):Nat->Option Fin×Unit->Sem (ForInStep (Option Fin×Unit)):=fun i _=>match items[i]? with
|some y=>do
  let c <-eqBool y x
  if c=true then do
    let r <-retInt i
    pure (ForInStep.done (some r,()))
   else pure (ForInStep.yield (none,()))
|_=>pure (ForInStep.yield (none,()))
theorem E1{prog:E_}{w:Kz}{A:KM}{E:a_->f_->Prop}{s:f_}{items:Array a_}{x:a_}{e:a_->Bool}{j:Nat}(hj:j<items.size)(hit:e items[j]=true)(he:∀y,y∈items->EqAt A s y x (e y)){Q:Option Fin×Unit->f_->Prop}(hq:Q (some (.done (.ret (.int j s.toks))),()) { s with toks:=s.toks+1 }):∀(k i:Nat),j=i+k->(∀m (hm:m<items.size),i<=m->m<j->e items[m]=false)->C_ (H_ prog w) A (forIn (MQ i (items.size-i)) (none,()) (qX items x)) Q E s:=by
 intro k
 induction k with
|zero=>
  intro i hk _;obtain rfl:j=i:=by omega
  obtain⟨r,hr⟩:∃r,items.size-j=r+1:=⟨items.size-j-1,by omega⟩
  rw[hr,Mv,LX];refine b_ ?_;unfold qX;rw[show items[j]? = some items[j]by simp[hj]];refine b_ (he _ (P4 hj) prog w _ _ ?_);rw[hit,if_pos rfl];refine b_ (m:=retInt j) ?_;unfold retInt
  wp_walk
  exact hq
|succ k ih=>
  intro i hk hno;have hi:i<items.size:=by omega
  obtain⟨r,hr⟩:∃r,items.size-i=r+1:=⟨items.size-i-1,by omega⟩
  rw[hr,Mv,LX];refine b_ ?_;unfold qX;rw[show items[i]? = some items[i]by simp[hi]];refine b_ (he _ (P4 hi) prog w _ _ ?_);rw[hno i hi (q_ _) (by omega),if_neg i_];refine u_ ?_;have:=ih (i+1) (by omega) (fun m hm h1 h2=>hno m hm (by omega) h2);rw[show items.size-(i+1)=r by omega]at this;exact this
theorem JG(l:Addr)(items:Array a_)(n:Nat)(dd:Option Addr)(sl:Array (Option a_))(x:a_)(e:a_->Bool)(j:Nat)(hj:j<items.size)(hit:e items[j]=true)(hno:∀m (hm:m<items.size),m<j->e items[m]=false) :
  Rs (MV.«tuple.index» ⟨[.ref l,x],[]⟩)
   (fun A R s=>s.heap.get? l=some { cls:=.type "tuple",dict:=dd,data:=.seq items n,slots:=sl }/\(∀y,y∈items->EqAt A.in1 s y x (e y))/\R (.ok (.ret (.int j s.toks))) { s with toks:=s.toks+1 }):=by
 intro prog w A R s h;obtain⟨hp,g,d,tk,os⟩:=s;obtain⟨hl,he,h⟩:=h;unfold MV.«tuple.index»;simp only[Pe];generalize hF : @forIn Sem (List Nat) Nat _ (Option Fin×Unit)=F
 wp_walk using Mf hl
 subst hF;rw[show([:min items.size items.size]:Std.Legacy.Range).size=items.size-0 by simp[Std.Legacy.Range.size]];refine E1 hj hit he ?_ j 0 (by omega) (fun m hm _ h2=>hno m hm h2);exact u_ h
end
end DL
namespace DL
open PySem PyProof.Rows
end DL
namespace DL
open PySem PyProof.Rows PySem.W
def kasRun{α:Type}(c:Nat->Nat->Bool):KasT α->α
|.ret a=>a
|.ask i j k=>kasRun c (k (c i j))
theorem lR{α β:Type}(c:Nat->Nat->Bool)(f:α->KasT β):∀t:KasT α,kasRun c (t.bind f)=kasRun c (f (kasRun c t))
|.ret a=>rfl
|.ask i j k=>lR c f (k (c i j))
inductive Asks(n:Nat){α:Type}(P:α->Prop):KasT α->Prop where
 |ret {a:α}:P a->Asks n P (.ret a)
 |ask {i j:Nat} {k:Bool->KasT α}:i<n->j<n->(∀b,Asks n P (k b))->Asks n P (.ask i j k)
theorem Asks.bind{n:Nat}{α β:Type}{P:α->Prop}{P':β->Prop}{t:KasT α}{f:α->KasT β}(h:Asks n P t)(hf:∀a,P a->Asks n P' (f a)):Asks n P' (t.bind f):=by induction h with
|ret h=>exact hf _ h
|ask h1 h2 _ ih=>exact .ask h1 h2 ih
theorem Asks.run{n:Nat}{α:Type}{P:α->Prop}{t:KasT α}(h:Asks n P t)(c:Nat->Nat->Bool):P (kasRun c t):=by induction h with
|ret h=>exact h
|ask _ _ _ ih=>exact ih _
theorem Asks.mono{n:Nat}{α:Type}{P P':α->Prop}{t:KasT α}(h:Asks n P t)(hp:∀a,P a->P' a):Asks n P' t:=by induction h with
|ret h=>exact .ret (hp _ h)
|ask h1 h2 _ ih=>exact .ask h1 h2 ih
theorem HS{n:Nat}{α:Type}{P:α->Prop}{cmp:Nat->Nat->(Bool->f_->Prop)->f_->Prop}{c:Nat->Nat->Bool}{s:f_}(hc:∀i j C,i<n->j<n->C (c i j) s->cmp i j C s){Q:α->f_->Prop}{t:KasT α}(h:Asks n P t):Q (kasRun c t) s->t.kasWp cmp Q s:=by induction h with
|ret _=>exact fun q=>q
|ask h1 h2 _ ih=>exact fun q=>hc _ _ _ h1 h2 (ih _ q)
def dg(n:Nat)(p:Array Nat):Prop:=p.toList.Perm (h_ n)
theorem dg.bd{n:Nat}{p:Array Nat}(h:dg n p)(hn:0<n)(k:Nat):p.getD k 0<n:=by
 by_cases hk:k<p.size
 .have e:p.getD k 0=p[k]:=by simp[QO,hk]
  rw[e];exact s_.mp (h.mem_iff.mp (by simp))
 .have e:p.getD k 0=0:=by simp[QO,hk]
  rw[e];exact hn
theorem dg.rev{n:Nat}{p:Array Nat}(h:dg n p)(i j:Nat):dg n (Nj p i j):=(NZ.mp (mirror_perm p i j ((j-i)/2))).trans h
theorem dg.bub{n:Nat}{p:Array Nat}(h:dg n p)(i j:Nat):dg n (bubble p i j):=(NZ.mp (bubble_perm p i j)).trans h
section
variable{n:Nat}(hn:0<n)
include hn
theorem sg{p:Array Nat}(h:dg n p):∀f k,Asks n (fun _=>True) (L1 p f k)
|0,k=>.ret trivial
|f+1,k=>.ask (h.bd hn _) (h.bd hn _) fun b=>by cases b with
 |true=>rw[if_pos rfl];exact .ret trivial
 |false=>rw[if_neg i_];exact sg h f (k+1)
theorem pe:∀f (p:Array Nat) k q,dg n p->Asks n (fun r=>dg n r.1) (L0 f p k q)
|0,p,k,q,h=>.ret h
|f+1,p,k,q,h=>.ask (h.bd hn _) (h.bd hn _) fun b=>by cases b with
 |true=>
   rw[if_pos rfl];split
   .exact pe f _ _ _ (h.rev _ _)
   .exact pe f _ _ _ h
 |false=>rw[if_neg i_];refine .ask (h.bd hn _) (h.bd hn _) fun b=>?_;cases b with
  |true=>rw[if_pos rfl];exact .ret h
  |false=>rw[if_neg i_];exact pe f _ _ _ h
theorem Aa{p:Array Nat}(h:dg n p)(a b:Nat):Asks n (fun r=>dg n r.2) (Ru a b p):=Asks.bind (sg hn (h.rev 0 a) _ _) fun m _=>.ret (h.rev 0 a)
theorem Aq{p:Array Nat}(h:dg n p)(a b:Nat):Asks n (fun r=>dg n r.2) (NO a b p):=by
 refine Asks.bind (pe hn _ p _ _ h) fun r hr=>?_;split
 .exact Aa hn (hr.rev _ _) _ _
 .exact Aa hn hr _ _
theorem Ig{p:Array Nat}(h:dg n p)(a:Nat):Asks n (fun r=>dg n r.2) (Qd a p):=by
 refine Asks.bind (sg hn h _ _) fun k _=>?_;split
 .exact .ret h
 .split
  .refine .ask (h.bd hn _) (h.bd hn _) fun b=>?_;cases b with
  |true=>rw[if_pos rfl];exact .ret h
  |false=>rw[if_neg i_];exact Aq hn (h.rev _ _) _ _
  .exact Aq hn h _ _
theorem tu{p:Array Nat}(h:dg n p)(k:Nat):∀f l r,Asks n (fun _=>True) (MH p k f l r)
|0,l,r=>.ret trivial
|f+1,l,r=>by
  unfold MH;split
  .exact .ret trivial
  .refine .ask (h.bd hn _) (h.bd hn _) fun b=>?_;cases b with
  |true=>rw[if_pos rfl];exact tu h k f _ _
  |false=>rw[if_neg i_];exact tu h k f _ _
theorem zf:∀f (p:Array Nat) k,dg n p->Asks n (dg n) (kas_bin f p k)
|0,p,k,h=>.ret h
|f+1,p,k,h=>Asks.bind (tu hn h k _ _ _) fun l _=>zf f _ _ (h.bub _ _)
theorem z9:Asks n (dg n) (N0 n):=by
 refine Asks.bind (Ig hn (p:=List.toArray (h_ n)) (by unfold dg;simp) n) fun r hr=>?_;split
 .exact zf hn _ _ _ hr
 .exact .ret hr
end
def gC(n:Nat)(c:Nat->Nat->Bool):List Nat:=if n<2 then h_ n else(kasRun c (N0 n)).toList
theorem tv(n:Nat)(c:Nat->Nat->Bool):(gC n c).Perm (h_ n):=by
 unfold gC;split
 .exact .refl _
 .exact(z9 (n:=n) (by omega)).run c
def bT:List Int->List Int->Bool
|[],[]=>false
|[],_::_=>true
|_::_,[]=>false
|x::xs,y::ys=>if x=y then bT xs ys else decide (x<y)
def fE(fin:Bool):List (List Int)->List (List Int)->Bool
|k::ks,l::ls=>if k=l then fE fin ks ls else bT k l
|_,_=>fin
def ca(ks ls:List (List Int)):Bool:=fE (decide (ks.length<ls.length)) ks ls
end DL
namespace DL
open PySem PyProof.Rows PySem.W PySem.Calls
section
variable{prog:E_}{w:Kz}{A:KM}{E:a_->f_->Prop}{s:f_}
theorem IJ{a:Addr}{vs:List a_}{n:Nat}{P:PySem.Fin->f_->Prop}(ho:s.heap.get? a=some (Ol "list" vs.toArray n))(h2:vs.length<2)(h:∀h' c,(∀b o,b≠a->s.heap.get? b=some o->h'.get? b=some o)->h'.get? a=some (Ol "list" vs.toArray c)->P (.done (.ret .none)) { s with heap:=h' }):C_ (H_ prog w) A (MV.«list.sort» ⟨[.ref a],[]⟩) P E s:=by
 have fits:vs.length<=sizeLine:=by rw[K1];omega
 have up:=fun(h:Heap)(f:Array a_->Array a_)=>NK h a (Lq f);obtain⟨e1,ho1⟩:∃e1,(s.heap.update a (Lq fun _=>(#[]:Array a_))).get? a=some (Ol "list" #[] e1):=⟨_,Qv ho fun _=>#[]⟩
 rw[list_sort_plain];refine b_ (listItems_at ho rfl (b_ (listUpdate_at ho rfl ?_ (by rw[n_];exact fits) (KN _))));refine b_ (seqEpoch_at ho1 rfl (b_ (Pf (b_ (wpAny_newList (Ll ?_) (KN _))) (by show vs.length<=_;exact fits))))
 dsimp only
 have hlt:vs.toArray.size<2:=by rw[n_];exact h2
 rw[if_pos hlt,if_pos hlt];refine b_ (u_ ?_);have hrun:(pure ():StateT SortSt Sem Unit).run (QP general' (vs.toArray.zip vs.toArray) #[] 7 none)=pure ((),QP general' (vs.toArray.zip vs.toArray) #[] 7 none):=rfl;rw[hrun];refine b_ (u_ ?_)
 dsimp only
 have hout:(arrOf (QP general' (vs.toArray.zip vs.toArray) #[] 7 none)).map (·.2)=vs.toArray:=by show((vs.toArray.zip vs.toArray).map (·.2))=vs.toArray;apply R1;simp[List.map_snd_zip]
 rw[hout];have keep3:∀b o,(s.heap.update a (Lq fun _=>(#[]:Array a_))).get? b=some o->(((s.heap.update a (Lq fun _=>(#[]:Array a_))).push (Ol "tuple" vs.toArray 0)).push (Ol "list" #[] 0)).get? b=some o:=fun b o e=>e_ _ (e_ _ e);have ho3:=keep3 _ _ ho1;refine b_ (seqEpoch_at ho3 rfl (b_ (listUpdate_at ho3 rfl ?_ (KN _) (by rw[n_];exact Nat.le_succ_of_le fits))));simp only[bne_self_eq_false,L8,if_false];refine u_ (h _ _ (fun b o hb e=>?_) (Qv ho3 fun _=>vs.toArray));exact((up _ _).2 b hb).trans (keep3 b o (((up _ _).2 b hb).trans e))
theorem JA{l:Addr}{vs:List a_}{Q:a_->f_->Prop}(hl:s.heap.IsList l vs.toArray)(h2:vs.length<2)(h:∀h' c D,(∀b o,s.heap.get? b=some o->h'.get? b=some o)->s.heap.objs.size<=D->h'.get? D=some (Ol "list" vs.toArray c)->Q (.ref D) { s with heap:=h' }):C_ (H_ prog w) A (call (.builtin "sorted") [.ref l]) Q E s:=by
 refine Calls.call_function_entry kind_sorted plain_sorted entry_sorted (args_sorted1 _) ?_;unfold MV.«sorted»;refine b_ (m:=checkCount "sorted" 1 1 _) (u_ (b_ (collect_list hl ?_ (by rw[K1];omega))));refine b_ (wpAny_newList ?_ (by rw[K1];omega));generalize hH:((s.heap.push (Ol "list" #[] 0)).update s.heap.objs.size (Lq (·++vs.toArray)))=H1;have hsz:H1.objs.size=s.heap.objs.size+1:=by rw[<-hH,Heap.size_update,size_push']
 have keep:∀b o,s.heap.get? b=some o->(H1.push (Ol "list" vs.toArray 0)).get? b=some o:=fun b o q=>by have hlt:b<s.heap.objs.size:=o_ q;refine e_ _ ?_;rw[<-hH,Heap.get?_update_ne _ _ _ _ (D_ hlt)];exact e_ _ q
 have hoL:(H1.push (Ol "list" vs.toArray 0)).get? H1.objs.size=some (Ol "list" vs.toArray 0):=y_ _ rfl;refine b_ (Ll (Lx slot_list_sort ⟨_,hoL,rfl⟩ entry_list_sort ?_ (args_list_sort _)));refine IJ (s:={ s with heap:=H1.push (Ol "list" vs.toArray 0) }) hoL h2 fun h' c kp hD=>?_;refine⟨_,rfl,u_ ⟨_,rfl,h h' c _ (fun b o e=>kp b o ?_ (keep b o e)) (by rw[hsz];exact Qs _) hD⟩⟩;rw[hsz];exact D_ (Nk (o_ e))
end
end DL
namespace DL
open PySem PySem.Spec PyProof.Rows L2 PySem.W PySem.Calls
structure Lft(fr:List Addr)(a:Addr)(oe:Obj)(vs:Array a_)(T:Option Addr)(v:a_)(h h':Heap):Prop where
 keep:∀b o,b∉fr->b≠a->T≠some b->h.get? b=some o->h'.get? b=some o
 slot:∀b o,h.get? b=some o->(∀vs:Array a_,o.data≠Data.fields vs)->∃sl,h'.get? b=some { cls:=o.cls,dict:=o.dict,data:=o.data,slots:=sl }
 obj:∃tb ot ts,(h.get? tb=none\/T=some tb)/\tb≠a/\h'.get? a=some { cls:=oe.cls,dict:=oe.dict,data:=.fields (vs.setIfInBounds 1 (.ref tb)),slots:=oe.slots }/\h'.get? tb=some ot/\ot.data=.fields ts/\ts[3]? = some v
def BG(h B:Heap)(a:Addr)(cls:a_)(od L:Option Addr):Prop:=∃oe vs,h.get? a=some oe/\oe.cls=cls/\(∀dx,od=some dx->oe.dict=some dx)/\oe.data=.fields vs /\(vs[1]? = some Value.none\/(∃T oT ts,vs[1]? = some (.ref T)/\B.get? T=none/\T≠a/\h.get? T=some oT/\oT.data=.fields ts/\ts[3]? = some Value.none) \/∃l T oT ts,L=some l/\vs[1]? = some (.ref T)/\B.get? T=none/\T≠a/\h.get? T=some oT/\oT.data=.fields ts/\ts[3]? = some (NU ↑l))
def uT(st:List Env):Option Addr:=st.head?.bind (·.frame)
structure Fly(P:E_)(w:Kz)(st:List Env)(H:Hp)(s:f_)(H':Hp)(a:Addr)(cls:a_)(od:Option Addr)(s':f_):Prop where
 os:s'.os=s.os
 bare:Nt s'.gens
 un:Un (di st) [] H H' s.heap s'.heap
 hok:cn P w H' s'.heap
 ex:∃B:Heap,B.StaysIn s'.heap/\B.get? a=none/\s'.heap.FunFrames B st/\BG s'.heap B a cls od (uT st) /\(∀b o,s.heap.get? b=some o->b∉di st->∃o',B.get? b=some o')/\∀b u,H' b=some u->∃o',B.get? b=some o'
def Kr(P:E_)(w:Kz):fZ:=fun outer H s E e s'=>∃a cls H' od,e=.ref a/\Fly P w outer H s H' a cls od s'/\E cls od H'
theorem C1{P:E_}{w:Kz}{H:Hp}{h:Heap}{a:Addr}{o:HO}(x:bx P w H h a o):∃u,h.get? a=some u:=by cases o with
|lst xs=>obtain⟨_,_,_,_,e⟩:=x;exact⟨_,e⟩
|tup xs=>obtain⟨_,_,_,_,o,e,_⟩:=x;exact⟨_,e⟩
|dK kvs=>obtain⟨_,_,_,_,o,_,_,e,_⟩:=x;exact⟨_,e⟩
|dT kvs=>obtain⟨_,_,_,_,o,_,_,e,_⟩:=x;exact⟨_,e⟩
|set S n=>obtain⟨o,_,_,_,e,_⟩:=x;exact⟨_,e⟩
|ins C dx fs=>obtain⟨_,_,_,e,_⟩:=x;exact⟨_,e⟩
|own y=>exact x
|xd fs=>obtain⟨_,⟨_,_,_,e,_⟩,_⟩:=x;exact⟨_,e⟩
|rng lo hi=>obtain⟨_,_,_,e⟩:=x;exact⟨_,e⟩
|frz ob u=>obtain⟨e,_⟩:=x;exact⟨_,e⟩
|tbl ps=>exact⟨_,(show h.get? a=some _ from x)⟩
|met f y=>exact⟨_,(show h.get? a=some _ from x)⟩
|ext φ=>exact x.2.1
abbrev uR:List a_:=[Value.type "ValueError",Value.type "Exception",Value.type "BaseException",Value.type "object"]
structure XC(K:W.Frag)(mg:Str->Option a_)(x:Str)(C:Addr):Prop where
 bound:mg x=some (.ref C)
 exc:excIn K C uR "ValueError.__new__" = true
section
variable{X:Cx}{pz:List (Addr×Obj)}{σ:L2.St}{H:Hp}{s:f_}{x:Str}{C:Addr}{np cpos pos:Pos}{e₀:Expr}{rest:List Expr}{t:TA}
theorem Fly.made{h':Heap}{e:Addr}{cls:a_}{vs:List a_}(I:Inv X pz σ H s)(m:s.heap.MadeExcOf h' e cls vs):Fly X.prog X.w X.stack H s H e cls none { heap:=h',gens:=s.gens,drawn:=s.drawn,toks:=s.toks,os:=s.os }:=by
 obtain⟨t,m1,m2,m3⟩:=m.there;have hst:∀b o,(RD s.heap (di X.stack)).get? b=some o->h'.get? b=some o:=fun b o e=>m.keeps b o (of_hideAll _ e);refine⟨rfl,I.bare,Un.kept m.keeps,I.hok.kept m.keeps,RD s.heap (di X.stack),hst,?_,?_,⟨_,_,m1,rfl,(fun _ e=>nomatch e),rfl,.inl rfl⟩,fun b o e n=>⟨o,hideAll_get _ e n⟩,fun b u e=>?_⟩
 .cases q:(RD s.heap (di X.stack)).get? e with
 |none=>rfl
 |some o=>have:=of_hideAll _ q;rw[m.new]at this;cases this
 .have ff:=I.stack;have key:∀l:List Env,(∀b∈di l,b∈di X.stack)->s.heap.FunFrames X.base l->h'.FunFrames (RD s.heap (di X.stack)) l:=by
   intro l
   induction l with
  |nil=>intro _ _;unfold QQ;trivial
  |cons env l ih=>
    intro hs hf;unfold QQ at hf ⊢;obtain⟨f1,⟨L,o,f2,f3,f4,f5⟩,f6⟩:=hf;refine⟨f1,⟨L,o,f2,hideAll_none _ (hs L ?_),m.keeps _ _ f4,f5⟩,ih (fun b hb=>hs b ?_) f6⟩
    .unfold di;rw[K4,f2];exact j_
    .unfold di;rw[K4,f2];exact k_ _ hb
  exact key X.stack (fun _ hb=>hb) ff
 .obtain⟨o,eo⟩:=C1 (I.hok b u e);exact⟨o,hideAll_get _ eo fun z=>by rw[I.stkFree b z]at e;cases e⟩
end
end DL
namespace DL
open PySem PySem.Spec PyProof.Rows L2
inductive D where
 |non|bl (b:Bool)|int (i:Int)|str (x:Str)
 |tup (ds:List D)|lst (ds:List D)
 |dic (kvs:List (au×D))
 |obj (c:Nat) (fs:List (Str×D))
instance:Inhabited D:=⟨.non⟩
inductive Res(α:Type) where
 |ok (a:α)|exc (x:D)|stuck
def Res.bind{α β:Type}(r:Res α)(f:α->Res β):Res β:=match r with
|.ok a=>f a
|.exc x=>.exc x
|.stuck=>.stuck
@[simp] theorem bind_ok{α β:Type}(a:α)(f:α->Res β):(Res.ok a).bind f=f a:=rfl
@[simp] theorem bind_exc{α β:Type}(x:D)(f:α->Res β):(Res.exc x:Res α).bind f=.exc x:=rfl
@[simp] theorem bind_stuck{α β:Type}(f:α->Res β):(Res.stuck:Res α).bind f=.stuck:=rfl
def fin{α:Type}(r:Res α)(q:α->Prop)(x:D->Prop):Prop:=match r with
|.ok a=>q a
|.exc e=>x e
|.stuck=>False
theorem a9{α:Type}{r:Res α}{q q':α->Prop}{x:D->Prop}(h:fin r q x)(hq:∀a,q a->q' a):fin r q' x:=by cases r with
|ok a=>exact hq a h
|exc e=>exact h
|stuck=>exact h
theorem aU{α β:Type}{r:Res α}{f:α->Res β}{q:β->Prop}{x:D->Prop}(h:fin (r.bind f) q x):fin r (fun a=>fin (f a) q x) x:=by cases r with
|ok a=>exact h
|exc e=>exact h
|stuck=>exact h
abbrev GH:=Addr->Option D
inductive Scl:V->D->Prop where
 |non:Scl .non .non
 |bl (b:Bool):Scl (.bl b) (.bl b)
 |int (i:Int):Scl (.int i) (.int i)
 |str (x:Str):Scl (.str x) (.str x)
inductive KC(K:W.Frag)(a:Addr):D->Prop where
|lst {xs:List V} {ds:List D}:aO K (fun _=>none) a xs->Paired Scl xs ds->KC K a (.lst ds)
|tup {xs:List V} {ds:List D}:bF K (fun _=>none) a xs->Paired Scl xs ds->(∃o,K.lookup a=some o/\o.cls=.type "tuple"/\o.dict=none)->KC K a (.tup ds)
inductive RG(K:W.Frag)(G:GH):V->D->Prop where
 |scl {v:V} {d:D}:Scl v d->RG K G v d
 |ref {a:Addr} {d:D}:G a=some d->RG K G (.ref a) d
 |kc {a:Addr} {d:D}:KC K a d->RG K G (.ref a) d
abbrev ba(K:W.Frag)(G:GH):List V->List D->Prop:=Paired (RG K G)
abbrev dE(K:W.Frag)(G:GH):List (au×V)->List (au×D)->Prop:=Paired fun p q=>p.1=q.1/\RG K G p.2 q.2
abbrev xD(nm:Str)(ds:List (Str×D)):D:=.obj 0 (("__class__",.str nm)::ds)
def XN(K:W.Frag)(nm:Str)(C:Addr):Prop:=∃o cd,K.lookup C=some o/\o.data=Data.cls cd/\cd.name=nm
def Bv(a C:Addr)(od:Option Addr):Heap->Prop:=fun h=>∃oe vs,h.get? a=some oe/\oe.cls=.ref C/\(∀dx,od=some dx->oe.dict=some dx)/\oe.data=.fields vs
def XF(G:GH)(od:Option Addr)(ds:List (Str×D)):Prop:=match od with
|none=>ds=[]
|some dx=>G dx=some (.obj 1 ds)
theorem XF.mono{G G':GH}{od:Option Addr}{ds:List (Str×D)}(h:XF G od ds)(ge:∀a d,G a=some d->G' a=some d):XF G' od ds:=by cases od with
|none=>exact h
|some dx=>exact ge _ _ h
abbrev Kp(K:W.Frag)(G:GH):List (Str×V)->List (Str×D)->Prop:=Paired fun p q=>p.1=q.1/\RG K G p.2 q.2
inductive OB(K:W.Frag)(G:GH)(H:Hp)(a:Addr):D->Prop where
 |lst {xs:List V} {ds:List D}:Rd H a (.lst xs)->ba K G xs ds->OB K G H a (.lst ds)
 |tup {xs:List V} {ds:List D}:Rd H a (.tup xs)->ba K G xs ds->OB K G H a (.tup ds)
 |dic {ob:Obj} {ps:List (au×V)} {kvs:List (au×D)}:H a=some (.frz ob (.dK ps))->dE K G ps kvs->OB K G H a (.dic kvs)
 |exc {nm:Str} {C:Addr} {od:Option Addr} {ds:List (Str×D)}:H a=some (.ext (Bv a C od))->XN K nm C->XF G od ds->OB K G H a (xD nm ds)
 |fld {fs:List (Str×V)} {ds:List (Str×D)}:H a=some (.xd fs)->Kp K G fs ds->OB K G H a (.obj 1 ds)
def aC(K:W.Frag)(G:GH)(H:Hp):Prop:=∀a d,G a=some d->OB K G H a d
inductive OwnO(K:W.Frag)(G:GH)(H:Hp)(a:Addr):D->Prop where
 |lst {xs:List V} {ds:List D}:H a=some (.lst xs)->ba K G xs ds->OwnO K G H a (.lst ds)
 |dic {ps:List (au×V)} {kvs:List (au×D)}:H a=some (.dK ps)->dE K G ps kvs->OwnO K G H a (.dic kvs)
structure Own(K:W.Frag)(G:GH)(H:Hp)(a:Addr)(d:D):Prop where
 un:G a=none
 ob:OwnO K G H a d
structure Grow(K:W.Frag)(G:GH)(H:Hp)(G':GH)(H':Hp):Prop where
 ok:aC K G' H'
 he:∀a o,H a=some o->H' a=some o
 ge:∀a d,G a=some d->G' a=some d
 gf:∀a,H a≠none->G' a=G a
section
variable{K:W.Frag}{G G' G1 G2:GH}{H H' H1 H2:Hp}{a p:Addr}{d:D}{v:V}
theorem Rd.mono{u:HO}(h:Rd H a u)(he:∀a o,H a=some o->H' a=some o):Rd H' a u:=by
 rcases h with h|⟨o,h⟩
 .exact .inl (he _ _ h)
 .exact .inr ⟨o,he _ _ h⟩
theorem Rd.isS{u:HO}(h:Rd H a u):H a≠none:=by rcases h with h|⟨o,h⟩ <;> rw[h] <;> simp
theorem RG.mono(h:RG K G v d)(ge:∀a d,G a=some d->G' a=some d):RG K G' v d:=by cases h with
|scl s=>exact .scl s
|ref e=>exact .ref (ge _ _ e)
|kc k=>exact .kc k
theorem ba.mono{xs:List V}{ds:List D}(h:ba K G xs ds)(ge:∀a d,G a=some d->G' a=some d):ba K G' xs ds:=Paired.mono (fun _ _ r=>r.mono ge) h
theorem dE.mono{xs:List (au×V)}{ds:List (au×D)}(h:dE K G xs ds)(ge:∀a d,G a=some d->G' a=some d):dE K G' xs ds:=Paired.mono (fun _ _ r=>⟨r.1,r.2.mono ge⟩) h
theorem OB.mono(h:OB K G H a d)(ge:∀a d,G a=some d->G' a=some d)(he:∀o,H a=some o->H' a=some o):OB K G' H' a d:=by
 have rd:∀{u:HO},Rd H a u->Rd H' a u:=fun r=>by
  rcases r with r|⟨o,r⟩
  .exact .inl (he _ r)
  .exact .inr ⟨o,he _ r⟩
 cases h with
|lst r s=>exact .lst (rd r) (s.mono ge)
|tup r s=>exact .tup (rd r) (s.mono ge)
|dic r s=>exact .dic (he _ r) (dE.mono s ge)
|exc r n f=>exact .exc (he _ r) n (f.mono ge)
|fld r s=>exact .fld (he _ r) (Paired.mono (fun _ _ r=>⟨r.1,r.2.mono ge⟩) s)
theorem OB.isS(h:OB K G H a d):H a≠none:=by cases h with
|lst r s=>exact Rd.isS r
|tup r s=>exact Rd.isS r
|dic r s=>rw[r];simp
|exc r n f=>rw[r];simp
|fld r s=>rw[r];simp
theorem aC.isN(g:aC K G H)(h:H p=none):G p=none:=by cases e:G p with
|none=>rfl
|some d=>exact absurd h (g p d e).isS
theorem OwnO.isS(h:OwnO K G H a d):H a≠none:=by cases h with
|lst r s=>rw[r];simp
|dic r s=>rw[r];simp
theorem OwnO.mono(h:OwnO K G H a d)(ge:∀a d,G a=some d->G' a=some d)(he:∀o,H a=some o->H' a=some o):OwnO K G' H' a d:=by cases h with
|lst r s=>exact .lst (he _ r) (s.mono ge)
|dic r s=>exact .dic (he _ r) (dE.mono s ge)
theorem Own.mono(h:Own K G H a d)(w:Grow K G H G' H'):Own K G' H' a d:=⟨by rw[w.gf a h.ob.isS];exact h.un,h.ob.mono w.ge fun o e=>w.he _ _ e⟩
def fz(H:Hp)(a:Addr)(ob:Obj):Hp:=match H a with
|some (.dK ps)=>upd H a (.frz ob (.dK ps))
|_=>H
theorem mi{b:Addr}{ob:Obj}(h:b≠a):fz H a ob b=H b:=by unfold fz;cases e:H a with
|none=>rfl
|some u=>cases u <;> first|rfl|exact bg h
theorem Dc{xs:List V}{ob:Obj}(h:H a=some (.lst xs)):fz H a ob=H:=by unfold fz;rw[h]
theorem Db{ps:List (au×V)}{ob:Obj}(h:H a=some (.dK ps)):fz H a ob a=some (.frz ob (.dK ps)):=by unfold fz;rw[h];exact bO
theorem OwnO.fast(h:OwnO K G H a d)(ob:Obj):OB K G (fz H a ob) a d:=by cases h with
|lst r s=>rw[Dc r];exact .lst (.inl r) s
|dic r s=>exact .dic (Db r) s
theorem aC.fast(g:aC K G H)(hn:G a=none)(ob:Obj):aC K G (fz H a ob):=fun b d e=>by
 have hb:b≠a:=by rintro rfl;rw[hn]at e;cases e
 exact(g b d e).mono (fun _ _ z=>z) fun o z=>by rw[mi hb];exact z
theorem Grow.refl(g:aC K G H):Grow K G H G H:=⟨g,fun _ _ e=>e,fun _ _ e=>e,fun _ _=>rfl⟩
theorem Grow.trans(x:Grow K G H G1 H1)(y:Grow K G1 H1 G2 H2):Grow K G H G2 H2:=
 ⟨y.ok,fun a o e=>y.he _ _ (x.he _ _ e),fun a d e=>y.ge _ _ (x.ge _ _ e),fun a h=>by
  have h1:H1 a≠Option.none:=by cases e:H a with
  |none=>exact absurd e h
  |some o=>rw[x.he _ _ e];simp
  rw[y.gf a h1,x.gf a h]⟩
def gset(G:GH)(a:Addr)(d:D):GH:=fun b=>if b=a then some d else G b
theorem dh:gset G a d a=some d:=if_pos rfl
theorem eT{b:Addr}(h:b≠a):gset G a d b=G b:=if_neg h
theorem dZ(hn:G a=none):∀b e,G b=some e->gset G a d b=some e:=fun b e h=>by
 have:b≠a:=by rintro rfl;rw[hn]at h;cases h
 rw[eT this];exact h
theorem aC.gset(g:aC K G H)(hn:G a=none)(o:OB K G H a d):aC K (gset G a d) H:=fun b e h=>by
 by_cases hb:b=a
 .subst hb;rw[dh]at h;cases h;exact o.mono (dZ hn) fun _ q=>q
 .rw[eT hb]at h;exact(g b e h).mono (dZ hn) fun _ q=>q
theorem q9(hn:H p=none){o:HO}:∀a u,H a=some u->upd H p o a=some u:=fun a u e=>by rw[bg (i3 e hn)];exact e
theorem Grow.new(g:aC K G H)(hn:H p=none)(o:HO):Grow K G H G (upd H p o):=⟨fun a d e=>(g a d e).mono (fun _ _ q=>q) fun u q=>q9 hn _ _ q,fun a u e=>q9 hn _ _ e,fun _ _ e=>e,fun _ _=>rfl⟩
theorem Grow.newF(g:aC K G H)(hn:H p=none){o:HO}(ob:OB K G (upd H p o) p d):Grow K G H (gset G p d) (upd H p o):=by have w:=Grow.new g hn o;have gn:=g.isN hn;exact⟨w.ok.gset gn ob,w.he,fun a e h=>dZ gn a e h,fun a h=>eT (by rintro rfl;exact h hn)⟩
theorem Grow.frz(w:Grow K G H G' H')(hn:H a=none)(o:Own K G' H' a d)(ob:Obj):Grow K G H (gset G' a d) (fz H' a ob):=⟨(w.ok.fast o.un ob).gset o.un (o.ob.fast ob),fun b u e=>by rw[mi (by rintro rfl;rw[hn]at e;cases e)];exact w.he b u e,fun b e h=>dZ o.un b e (w.ge b e h),fun b h=>by rw[eT (by rintro rfl;exact h hn)];exact w.gf b h⟩
theorem RG.lst{ds:List D}(g:aC K G H)(h:RG K G v (.lst ds)):∃a xs,v=.ref a/\aO K H a xs/\ba K G xs ds:=by cases h with
|scl s=>cases s
|ref e=>cases g _ _ e with
 |lst r s=>exact⟨_,_,rfl,.inl r,s⟩
|kc k=>cases k with
 |lst r s=>
   refine⟨_,_,rfl,?_,Paired.mono (fun _ _ z=>.scl z) s⟩;rcases r with(r|⟨o,r⟩)|r
   .cases r
   .cases r
   .exact .inr r
theorem RG.tup{ds:List D}(g:aC K G H)(h:RG K G v (.tup ds)):∃a xs,v=.ref a/\bF K H a xs/\ba K G xs ds:=by cases h with
|scl s=>cases s
|ref e=>cases g _ _ e with
 |tup r s=>exact⟨_,_,rfl,.inl r,s⟩
|kc k=>cases k with
 |tup r s _=>
   refine⟨_,_,rfl,?_,Paired.mono (fun _ _ z=>.scl z) s⟩;rcases r with(r|⟨o,r⟩)|r
   .cases r
   .cases r
   .exact .inr r
theorem RG.dic{kvs:List (au×D)}(g:aC K G H)(h:RG K G v (.dic kvs)):∃a ps,v=.ref a/\Rd H a (.dK ps)/\dE K G ps kvs:=by cases h with
|scl s=>cases s
|ref e=>cases g _ _ e with
 |dic r s=>exact⟨_,_,rfl,.inr ⟨_,r⟩,s⟩
|kc k=>cases k
theorem RG.int{i:Int}(g:aC K G H)(h:RG K G v (.int i)):v=.int i:=by cases h with
|scl s=>cases s;rfl
|ref e=>cases g _ _ e
|kc k=>cases k
theorem RG.str{x:Str}(g:aC K G H)(h:RG K G v (.str x)):v=.str x:=by cases h with
|scl s=>cases s;rfl
|ref e=>cases g _ _ e
|kc k=>cases k
theorem RG.bl{b:Bool}(g:aC K G H)(h:RG K G v (.bl b)):v=.bl b:=by cases h with
|scl s=>cases s;rfl
|ref e=>cases g _ _ e
|kc k=>cases k
theorem RG.non(g:aC K G H)(h:RG K G v .non):v=.non:=by cases h with
|scl s=>cases s;rfl
|ref e=>cases g _ _ e
|kc k=>cases k
def RB(K:W.Frag)(G:GH)(H:Hp)(v:V)(d:D):Prop:=RG K G v d\/∃a,v=.ref a/\Own K G H a d
theorem RG.rb(h:RG K G v d):RB K G H v d:=.inl h
theorem RB.mono(h:RB K G H v d)(w:Grow K G H G' H'):RB K G' H' v d:=by
 rcases h with h|⟨a,e,h⟩
 .exact .inl (h.mono w.ge)
 .exact .inr ⟨a,e,h.mono w⟩
theorem RB.lst{ds:List D}(g:aC K G H)(h:RB K G H v (.lst ds)):∃a xs,v=.ref a/\aO K H a xs/\ba K G xs ds:=by
 rcases h with h|⟨a,e,h⟩
 .exact h.lst g
 .cases h.ob with
 |lst r s=>exact⟨a,_,e,aO.of r,s⟩
theorem RB.tup{ds:List D}(g:aC K G H)(h:RB K G H v (.tup ds)):∃a xs,v=.ref a/\bF K H a xs/\ba K G xs ds:=by
 rcases h with h|⟨a,e,h⟩
 .exact h.tup g
 .cases h.ob
theorem RB.dic{kvs:List (au×D)}(g:aC K G H)(h:RB K G H v (.dic kvs)):∃a ps,v=.ref a/\Rd H a (.dK ps)/\dE K G ps kvs:=by
 rcases h with h|⟨a,e,h⟩
 .exact h.dic g
 .cases h.ob with
 |dic r s=>exact⟨a,_,e,.inl r,s⟩
theorem RB.int{i:Int}(g:aC K G H)(h:RB K G H v (.int i)):v=.int i:=by
 rcases h with h|⟨a,e,h⟩
 .exact h.int g
 .cases h.ob
theorem RB.str{x:Str}(g:aC K G H)(h:RB K G H v (.str x)):v=.str x:=by
 rcases h with h|⟨a,e,h⟩
 .exact h.str g
 .cases h.ob
theorem RB.bl{b:Bool}(g:aC K G H)(h:RB K G H v (.bl b)):v=.bl b:=by
 rcases h with h|⟨a,e,h⟩
 .exact h.bl g
 .cases h.ob
theorem RB.non(g:aC K G H)(h:RB K G H v .non):v=.non:=by
 rcases h with h|⟨a,e,h⟩
 .exact h.non g
 .cases h.ob
theorem Paired.get{α β:Type}{F:α->β->Prop}:∀{l:List α}{r:List β}{i:Nat}{b:β},Paired F l r->r[i]? = some b->∃a,l[i]? = some a/\F a b
|_,_,_,_,.nil,e=>by simp at e
|_,_,0,_,.cons h _,e=>by simp at e;subst e;exact⟨_,rfl,h⟩
|_,_,i+1,b,.cons _ t,e=>by obtain⟨a,h1,h2⟩:=Paired.get (i:=i) t (by simpa using e);exact⟨a,by simpa using h1,h2⟩
theorem Paired.app{α β:Type}{F:α->β->Prop}{l l':List α}{r r':List β}(h:Paired F l r)(q:Paired F l' r'):Paired F (l++l') (r++r'):=by induction h with
|nil=>exact q
|cons h _ ih=>exact .cons h ih
theorem Paired.tk{α β:Type}{F:α->β->Prop}{l:List α}{r:List β}(n:Nat)(h:Paired F l r):Paired F (l.take n) (r.take n):=by induction h generalizing n with
|nil=>cases n <;> exact .nil
|cons h _ ih=>cases n with
 |zero=>exact .nil
 |succ n=>exact .cons h (ih n)
theorem Paired.dr{α β:Type}{F:α->β->Prop}{l:List α}{r:List β}(n:Nat)(h:Paired F l r):Paired F (l.drop n) (r.drop n):=by induction h generalizing n with
|nil=>cases n <;> exact .nil
|cons h t ih=>cases n with
 |zero=>exact .cons h t
 |succ n=>exact ih n
theorem Paired.st{α β:Type}{F:α->β->Prop}{a:α}{b:β}(h:F a b){l:List α}{r:List β}(n:Nat)(p:Paired F l r):Paired F (l.set n a) (r.set n b):=by induction p generalizing n with
|nil=>exact .nil
|cons q t ih=>cases n with
 |zero=>exact .cons h t
 |succ n=>exact .cons q (ih n)
theorem Paired.er{α β:Type}{F:α->β->Prop}{l:List α}{r:List β}(n:Nat)(p:Paired F l r):Paired F (l.eraseIdx n) (r.eraseIdx n):=by induction p generalizing n with
|nil=>exact .nil
|cons q t ih=>cases n with
 |zero=>exact t
 |succ n=>exact .cons q (ih n)
end
inductive Md where
 |sh|ow|bw
 deriving DecidableEq
abbrev al:=List (Option D)
structure GE where
 gh:GH
 h0:Hp
 hd:Nat->Option (Option V×Option D)
def Bw(K:W.Frag)(h0:Hp)(G:GH)(H:Hp)(v:V)(d:D):Prop:=RG K G v d\/∃a,v=V.ref a/\Own K G H a d/\h0 a≠none
theorem Bw.grow{K:W.Frag}{h0:Hp}{G G':GH}{H H':Hp}{v:V}{d:D}(h:Bw K h0 G H v d)(w:Grow K G H G' H'):Bw K h0 G' H' v d:=by
 rcases h with h|⟨a,e,h1,h2⟩
 .exact .inl (h.mono w.ge)
 .exact .inr ⟨a,e,h1.mono w,h2⟩
theorem Bw.rb{K:W.Frag}{h0:Hp}{G:GH}{H:Hp}{v:V}{d:D}(h:Bw K h0 G H v d):RB K G H v d:=by
 rcases h with h|⟨a,e,h1,h2⟩
 .exact .inl h
 .exact .inr ⟨a,e,h1⟩
def Lk(r:al)(st:L2.St)(i:Nat)(o:Option V×Option D):Prop:=st[i]? = some o.1/\∀d,r[i]? = some (some d)->o.2=some d
structure SI(X:Cx)(g:GE)(m:List Md)(r:al)(G:GH)(st:L2.St)(H:Hp):Prop where
 gok:aC X.K G H
 old:∀a o,g.h0 a=some o->H a=some o
 ge:∀a d,g.gh a=some d->G a=some d
 gf:∀a,g.h0 a≠none->G a=g.gh a
 lm:m.length=st.length
 lr:r.length=st.length
 sh:∀(i:Nat) d,r[i]? = some (some d)->m[i]? = some .sh->∃v,st[i]? = some (some v)/\RG X.K G v d
 ow:∀(i:Nat) d,r[i]? = some (some d)->m[i]? = some .ow->∃a,st[i]? = some (some (V.ref a))/\Own X.K G H a d/\g.h0 a=none
 bw:∀(i:Nat) d,r[i]? = some (some d)->m[i]? = some .bw->∃v,st[i]? = some (some v)/\Bw X.K g.h0 G H v d
 dis:∀(i j:Nat) a d e,i≠j->r[i]? = some (some d)->r[j]? = some (some e)->m[i]? = some .ow->m[j]? = some .ow->st[i]? = some (some (V.ref a))->st[j]? = some (some (V.ref a))->False
 lk:∀(i:Nat) o,g.hd i=some o->m[i]? = some .bw->Lk r st i o
section
variable{X:Cx}{g:GE}{m:List Md}{r:al}{G G':GH}{st:L2.St}{H H':Hp}
theorem SI.grow(s:SI X g m r G st H)(w:Grow X.K G H G' H'):SI X g m r G' st H' where
 gok:=w.ok
 old:=fun a o e=>w.he _ _ (s.old a o e)
 ge:=fun a d e=>w.ge _ _ (s.ge a d e)
 gf:=fun a h=>by
  have h1:H a≠none:=by cases e:g.h0 a with
  |none=>exact absurd e h
  |some o=>rw[s.old _ _ e];simp
  rw[w.gf a h1,s.gf a h]
 lm:=s.lm
 lr:=s.lr
 sh:=fun i d h1 h2=>by obtain⟨v,h3,h4⟩:=s.sh i d h1 h2;exact⟨v,h3,h4.mono w.ge⟩
 ow:=fun i d h1 h2=>by obtain⟨a,h3,h4,h5⟩:=s.ow i d h1 h2;exact⟨a,h3,h4.mono w,h5⟩
 bw:=fun i d h1 h2=>by obtain⟨v,h3,h4⟩:=s.bw i d h1 h2;exact⟨v,h3,h4.grow w⟩
 dis:=s.dis
 lk:=s.lk
theorem SI.grown(s:SI X g m r G st H):Grow X.K g.gh g.h0 G H:=⟨s.gok,s.old,s.ge,s.gf⟩
theorem SI.frz(s:SI X g m r G st H)(i:Nat)(hi:m[i]? = some .ow):(∃G',(∀a d,G a=some d->G' a=some d)/\SI X g (m.set i .sh) r G' st H)\/∃a,∀ob,∃G',(∀a d,G a=some d->G' a=some d)/\SI X g (m.set i .sh) r G' st (fz H a ob):=by
 have hlt:i<m.length:=(c_.mp hi).1;by_cases hb:∃d,r[i]? = some (some d)
 .obtain⟨d,hd⟩:=hb;obtain⟨a,h1,h2,h3⟩:=s.ow i d hd hi;refine .inr ⟨a,fun ob=>⟨gset G a d,dZ h2.un,(s.gok.fast h2.un ob).gset h2.un (h2.ob.fast ob),fun b o e=>by rw[mi (by rintro rfl;rw[h3]at e;cases e)];exact s.old b o e,fun b e h=>dZ h2.un b e (s.ge b e h),fun b h=>?_,by simpa using s.lm,s.lr,?_,?_,?_,?_,fun j o hj hm=>?_⟩⟩
  .rw[eT (by rintro rfl;exact h h3)];exact s.gf b h
  .intro j e hj hm;by_cases hij:i=j
   .subst hij;rw[hd]at hj;cases hj;exact⟨_,h1,.ref dh⟩
   .rw[g_ hij]at hm;obtain⟨v,q1,q2⟩:=s.sh j e hj hm;exact⟨v,q1,q2.mono (dZ h2.un)⟩
  .intro j e hj hm;by_cases hij:i=j
   .subst hij;rw[p_ hlt]at hm;cases hm
   .rw[g_ hij]at hm;obtain⟨b,q1,q2,q3⟩:=s.ow j e hj hm;have hba:b≠a:=by
     rintro rfl
     exact s.dis i j b d e hij hd hj hi hm h1 q1
    exact⟨b,q1,⟨by rw[eT hba];exact q2.un,q2.ob.mono (dZ h2.un) fun _ z=>by rw[mi hba];exact z⟩,q3⟩
  .intro j e hj hm;by_cases hij:i=j
   .subst hij;rw[p_ hlt]at hm;cases hm
   .rw[g_ hij]at hm;obtain⟨v,q1,q2⟩:=s.bw j e hj hm;refine⟨v,q1,?_⟩;rcases q2 with q2|⟨b,rfl,q2,q3⟩
    .exact .inl (q2.mono (dZ h2.un))
    .have hba:b≠a:=by rintro rfl;exact q3 h3
     exact .inr ⟨b,rfl,⟨by rw[eT hba];exact q2.un,q2.ob.mono (dZ h2.un) fun _ z=>by rw[mi hba];exact z⟩,q3⟩
  .intro j k b e e' hjk hj hk hm hm' q1 q2;have hij:i≠j:=by
    rintro rfl
    rw[p_ hlt]at hm;cases hm
   have hik:i≠k:=by
    rintro rfl
    rw[p_ hlt]at hm';cases hm'
   rw[g_ hij]at hm;rw[g_ hik]at hm';exact s.dis j k b e e' hjk hj hk hm hm' q1 q2
  .refine s.lk j o hj ?_;by_cases hij:i=j
   .subst hij;rw[p_ hlt]at hm;cases hm
   .rw[g_ hij]at hm;exact hm
 .refine .inl ⟨G,fun _ _ z=>z,s.gok,s.old,s.ge,s.gf,by simpa using s.lm,s.lr,?_,?_,?_,?_,fun j o hj hm=>?_⟩
  .intro j e hj hm;have hij:i≠j:=by rintro rfl;exact hb ⟨e,hj⟩
   rw[g_ hij]at hm;exact s.sh j e hj hm
  .intro j e hj hm;have hij:i≠j:=by rintro rfl;exact hb ⟨e,hj⟩
   rw[g_ hij]at hm;exact s.ow j e hj hm
  .intro j e hj hm;have hij:i≠j:=by rintro rfl;exact hb ⟨e,hj⟩
   rw[g_ hij]at hm;exact s.bw j e hj hm
  .intro j k b e e' hjk hj hk hm hm' q1 q2;have hij:i≠j:=by rintro rfl;exact hb ⟨e,hj⟩
   have hik:i≠k:=by rintro rfl;exact hb ⟨e',hk⟩
   rw[g_ hij]at hm;rw[g_ hik]at hm';exact s.dis j k b e e' hjk hj hk hm hm' q1 q2
  .refine s.lk j o hj ?_;by_cases hij:i=j
   .subst hij;rw[p_ hlt]at hm;cases hm
   .rw[g_ hij]at hm;exact hm
end
theorem PE.imp{X:Cx}{e:Expr}{t t':TE}(h:PE X e t)(i:∀σ H Q,t' σ H Q->t σ H Q):PE X e t':=fun pz s σ H Q I q=>h pz s σ H Q I (i σ H Q q)
theorem PT.imp{X:Cx}{e:Expr}{t t':TT}(h:PT X e t)(i:∀σ H Q,t' σ H Q->t σ H Q):PT X e t':=fun pz s σ H Q I q=>h pz s σ H Q I (i σ H Q q)
theorem PW.imp{X:Cx}{e:Expr}{t t':TT}(h:PW X e t)(i:∀σ H Q,t' σ H Q->t σ H Q):PW X e t':=fun whole pz s σ H Q I q=>h whole pz s σ H Q I (i σ H Q q)
theorem PA.imp{X:Cx}{e:List Expr}{t t':TA}(h:PA X e t)(i:∀σ H Q,t' σ H Q->t σ H Q):PA X e t':=fun pos pz s σ H Q I q=>h pos pz s σ H Q I (i σ H Q q)
theorem PS.imp{X:Cx}{e:Stmt}{t t':TS}(h:PS X e t)(i:∀D σ H,t' D σ H->t D σ H):PS X e t':=fun pz s σ H D I q=>h pz s σ H D I (i D σ H q)
theorem dU.imp{X:Cx}{e:List Stmt}{t t':TS}(h:dU X e t)(i:∀D σ H,t' D σ H->t D σ H):dU X e t':=fun pz s σ H D I q=>h pz s σ H D I (i D σ H q)
def BC(X:Cx)(σ:L2.St)(G:GH)(H':Hp)(e:a_)(x:D)(s':f_):Prop:=∃pz s H1 a C od nm ds,e=.ref a/\x=xD nm ds/\XN X.K nm C/\XF G od ds/\Inv X pz σ H1 s/\Fly X.prog X.w X.stack H1 s H' a (.ref C) od s'
def XW(X:Cx)(σ:L2.St)(G:GH)(H:Hp)(x:D):Prop:=∀pz e s' G' H',Grow X.K G H G' H'->Inv X pz σ H' s'->BC X σ G' H' e x s'->X.xe e s'
theorem XW.grow{X:Cx}{σ:L2.St}{G G1:GH}{H H1:Hp}{x:D}(h:XW X σ G H x)(w:Grow X.K G H G1 H1):XW X σ G1 H1 x:=fun pz e s' G' H' w' I q=>h pz e s' G' H' (w.trans w') I q
abbrev FE:=al->Res D
def tE(X:Cx)(g:GE)(m:List Md)(f:FE):TE:=fun σ H Q=>∃r G,SI X g m r G σ H/\fin (f r) (fun d=>∀v G' H',Grow X.K G H G' H'->RG X.K G' v d->Q v H') (XW X σ G H)
def tB(X:Cx)(g:GE)(m:List Md)(f:FE):TE:=fun σ H Q=>∃r G,SI X g m r G σ H/\fin (f r) (fun d=>∀v G' H',Grow X.K G H G' H'->RB X.K G' H' v d->Q v H') (XW X σ G H)
def tO(X:Cx)(g:GE)(m:List Md)(f:FE):TE:=fun σ H Q=>∃r G,SI X g m r G σ H/\fin (f r) (fun d=>∀a G' H',Grow X.K G H G' H'->H a=none->Own X.K G' H' a d->Q (.ref a) H') (XW X σ G H)
def tQ(X:Cx)(g:GE)(m:List Md)(f:al->Res Bool):TT:=fun σ H Q=>∃r G,SI X g m r G σ H/\fin (f r) (fun b=>∀G' H',Grow X.K G H G' H'->Q b H') (XW X σ G H)
def tL(X:Cx)(g:GE)(m:List Md)(f:al->Res (List D)):TA:=fun σ H Q=>∃r G,SI X g m r G σ H/\fin (f r) (fun ds=>∀vs G' H',Grow X.K G H G' H'->ba X.K G' vs ds->Q vs H') (XW X σ G H)
def vB(X:Cx)(g:GE)(m:List Md)(f:al->Res (List D)):TA:=fun σ H Q=>∃r G,SI X g m r G σ H/\fin (f r) (fun ds=>∀vs G' H',Grow X.K G H G' H'->Paired (RB X.K G' H') vs ds->Q vs H') (XW X σ G H)
def SE(X:Cx)(g:GE)(m:List Md)(e:Expr)(f:FE):Prop:=PE X e (tE X g m f)
def SB(X:Cx)(g:GE)(m:List Md)(e:Expr)(f:FE):Prop:=PE X e (tB X g m f)
def SO(X:Cx)(g:GE)(m:List Md)(e:Expr)(f:FE):Prop:=PE X e (tO X g m f)
def SQ(X:Cx)(g:GE)(m:List Md)(e:Expr)(f:al->Res Bool):Prop:=PT X e (tQ X g m f)
def SW(X:Cx)(g:GE)(m:List Md)(e:Expr)(f:al->Res Bool):Prop:=PW X e (tQ X g m f)
def SA(X:Cx)(g:GE)(m:List Md)(es:List Expr)(f:al->Res (List D)):Prop:=PA X es (tL X g m f)
def gS(X:Cx)(g:GE)(m:List Md)(es:List Expr)(f:al->Res (List D)):Prop:=PA X es (vB X g m f)
section
variable{X:Cx}{g:GE}{m:List Md}{e a b c:Expr}{f fa fb fc:FE}{pos:Pos}
theorem SE.toB(h:SE X g m e f):SB X g m e f:=PE.imp h fun σ H Q ⟨r,G,si,q⟩=>⟨r,G,si,a9 q fun d k v G' H' w z=>k v G' H' w z.rb⟩
theorem Inv.fast{pz:List (Addr×Obj)}{σ:L2.St}{H:Hp}{s:f_}(I:Inv X pz σ H s)(a:Addr):∃ob,Inv X pz σ (fz H a ob) s:=by cases e:H a with
|none=>exact⟨{ cls:=.none,data:=.fields #[] },by unfold fz;rw[e];exact I⟩
|some u=>cases u with
 |dK ps=>
   obtain⟨z1,z2,vs,z3,o,es,ep,z4,z5⟩:=(show bx X.prog X.w H s.heap a (.dK ps)from I.hok a _ e)
   have ef:fz H a o=upd H a (.frz o (.dK ps)):=by unfold fz;rw[e]
   refine⟨o,?_⟩;rw[ef];exact I.write (t':=s.toks) (h':=s.heap) (x:=a) (e:=a) (by rw[e];exact trivial) (.inl rfl) (fun b u _ q=>q) ⟨o,z4⟩ (show bx X.prog X.w _ s.heap a (.frz o (.dK ps))from⟨z4,z1,z2,vs,z3,o,es,ep,z4,z5⟩)
 |_=>exact⟨{ cls:=.none,data:=.fields #[] },by unfold fz;rw[e];exact I⟩
theorem SO.toE(h:SO X g m e f):SE X g m e f:=by intro pz s σ H Q I ⟨r,G,si,q⟩;refine aH (h pz s σ H (fun v H'=>∃a,v=.ref a/\∀ob,Q v (fz H' a ob)) I ⟨r,G,si,a9 q fun d k a G' H' w hn o=>⟨a,rfl,fun ob=>k _ _ _ (w.frz hn o ob) (.ref dh)⟩⟩) fun u s' ⟨v,H',I',rv,a,_,z⟩=>?_;obtain⟨ob,I2⟩:=Inv.fast I' a;exact⟨v,_,I2,rv,z ob⟩
theorem SO.toB(h:SO X g m e f):SB X g m e f:=h.toE.toB
theorem SE.eq{f':FE}(h:SE X g m e f)(q:∀r,f' r=f r):SE X g m e f':=by have:f'=f:=funext q;rw[this];exact h
theorem ox{v:V}{d:D}(h:PE X e (tC v))(s:Scl v d):SE X g m e fun _=>.ok d:=PE.imp h fun σ H Q ⟨r,G,si,q⟩=>q v G H (Grow.refl si.gok) (.scl s)
theorem qM{i:Int}{j}:SE X g m (.Constant (.int i) j pos) fun _=>.ok (.int i):=ox Ei (.int i)
theorem hJ{i:Bool}{j}:SE X g m (.Constant (.bool i) j pos) fun _=>.ok (.bl i):=ox Ck (.bl i)
theorem iL{j}:SE X g m (.Constant .none j pos) fun _=>.ok .non:=ox Ek .non
theorem lf{i:Str}{j}:SE X g m (.Constant (.str i) j pos) fun _=>.ok (.str i):=ox DT (.str i)
def cY(r:al)(i:Nat):Res D:=match r[i]? with
|some (some d)=>.ok d
|_=>.stuck
theorem oX{r:al}{i:Nat}{q:D->Prop}{x:D->Prop}(h:fin (cY r i) q x):∃d,r[i]? = some (some d)/\q d:=by
 unfold cY at h;split at h
 .rename_i d e;exact⟨d,e,h⟩
 .exact h.elim
theorem BM(i:Nat){x:Str}(hm:m[i]? = some .sh)(hN:X.N[i]? = some x)(hv:gw X.env.scope x)(hd:(x==("__debug__" : Str))=false:=by decide)(hcd:(x==("__classdict__" : Str))=false:=by decide):SE X g m (.Name x pos) fun r=>cY r i:=by refine PE.imp (j7 hN hv hd hcd) fun σ H Q ⟨r,G,si,q⟩=>?_;obtain⟨d,e,k⟩:=oX q;obtain⟨v,e1,e2⟩:=si.sh i d e hm;exact⟨v,e1,k v G H (Grow.refl si.gok) e2⟩
theorem DA(i:Nat){x:Str}(hm:i<m.length)(hN:X.N[i]? = some x)(hv:gw X.env.scope x)(hd:(x==("__debug__" : Str))=false:=by decide)(hcd:(x==("__classdict__" : Str))=false:=by decide):SB X g m (.Name x pos) fun r=>cY r i:=by refine PE.imp (j7 hN hv hd hcd) fun σ H Q ⟨r,G,si,q⟩=>?_;obtain⟨d,e,k⟩:=oX q;have hm':m[i]? = some m[i]:=d_ hm;cases h:m[i]with
|sh=>obtain⟨v,e1,e2⟩:=si.sh i d e (hm'.trans (by rw[h]));exact⟨v,e1,k v G H (Grow.refl si.gok) e2.rb⟩
|ow=>obtain⟨v,e1,e2,_⟩:=si.ow i d e (hm'.trans (by rw[h]));exact⟨_,e1,k _ G H (Grow.refl si.gok) (.inr ⟨v,rfl,e2⟩)⟩
|bw=>obtain⟨v,e1,e2⟩:=si.bw i d e (hm'.trans (by rw[h]));exact⟨_,e1,k _ G H (Grow.refl si.gok) e2.rb⟩
theorem i9{β:Type}{k:D->D->Res β}{q:β->Prop}{R:V->V->Hp->Prop}{r:al}{G:GH}{σ:L2.St}{H:Hp}(si:SI X g m r G σ H)(h:fin ((fa r).bind fun d1=>(fb r).bind fun d2=>k d1 d2) q (XW X σ G H))(hk:∀d1 d2 v1 v2 G2 H2,Grow X.K G H G2 H2->RB X.K G2 H2 v1 d1->RB X.K G2 H2 v2 d2->fin (k d1 d2) q (XW X σ G H)->R v1 v2 H2):tB X g m fa σ H fun v1 H1=>tB X g m fb σ H1 fun v2 H2=>R v1 v2 H2:=by refine⟨r,G,si,a9 (aU h) fun d1 h1 v1 G1 H1 w1 r1=>⟨r,G1,si.grow w1,?_⟩⟩;cases e:fb r with
|ok d2=>rw[e]at h1;exact fun v2 G2 H2 w2 r2=>hk d1 d2 v1 v2 G2 H2 (w1.trans w2) (r1.mono w2) r2 h1
|exc x=>rw[e]at h1;exact(show XW X σ G H x from h1).grow w1
|stuck=>rw[e]at h1;exact h1
def bH{α:Type}:Option α->Res α
|some a=>.ok a
|none=>.stuck
@[simp] theorem opt_some{α:Type}(a:α):bH (some a)=.ok a:=rfl
@[simp] theorem opt_none{α:Type}:bH (none:Option α)=.stuck:=rfl
theorem cv{α:Type}{o:Option α}{q:α->Prop}{x:D->Prop}(h:fin (bH o) q x):∃a,o=some a/\q a:=by cases o with
|none=>exact h.elim
|some a=>exact⟨a,rfl,h⟩
def cN(K:W.Frag)(r:R2)(k:D->D->Option D):Prop:=∀(G:GH)(H:Hp)(v1 v2:V)(d1 d2 d:D)(Q:VK),aC K G H->RB K G H v1 d1->RB K G H v2 d2->k d1 d2=some d ->(∀v G' H',Grow K G H G' H'->RG K G' v d->Q v H')->r v1 v2 H Q
def Bz(K:W.Frag)(r:R2)(k:D->D->Option D):Prop:=∀(G:GH)(H:Hp)(v1 v2:V)(d1 d2 d:D)(Q:VK),aC K G H->RB K G H v1 d1->RB K G H v2 d2->k d1 d2=some d ->(∀a G' H',Grow K G H G' H'->H a=none->Own K G' H' a d->Q (.ref a) H')->r v1 v2 H Q
def f2(fa fb:FE)(k:D->D->Option D):FE:=fun r=>(fa r).bind fun d1=>(fb r).bind fun d2=>bH (k d1 d2)
theorem qP{R:R2}{k:D->D->Option D}(ho:cN X.K R k)(h:PE X e (lZ R (tB X g m fa) (tB X g m fb))):SE X g m e (f2 fa fb k):=by refine PE.imp h fun σ H Q ⟨r,G,si,q⟩=>?_;refine i9 si q fun d1 d2 v1 v2 G2 H2 w r1 r2 q2=>?_;obtain⟨d,e,q2⟩:=cv q2;exact ho G2 H2 v1 v2 d1 d2 d Q w.ok r1 r2 e fun v G' H' w' z=>q2 v G' H' (w.trans w') z
theorem Dy{R:R2}{k:D->D->Option D}(ho:Bz X.K R k)(h:PE X e (lZ R (tB X g m fa) (tB X g m fb))):SO X g m e (f2 fa fb k):=by
 refine PE.imp h fun σ H Q ⟨r,G,si,q⟩=>?_;refine i9 si q fun d1 d2 v1 v2 G2 H2 w r1 r2 q2=>?_;obtain⟨d,e,q2⟩:=cv q2;exact ho G2 H2 v1 v2 d1 d2 d Q w.ok r1 r2 e fun a G' H' w' hn z=>q2 a G' H' (w.trans w') (by cases q:H a with
 |none=>rfl
 |some o=>rw[w.he _ _ q]at hn;cases hn) z
theorem jO{op:Operator}{R:R2}{k:D->D->Option D}(hr:aT X (ME op) R)(ho:cN X.K R k)(ha:SB X g m a fa)(hb:SB X g m b fb):SE X g m (.BinOp a op b pos) (f2 fa fb k):=qP ho (Cn hr ha hb)
theorem Cu{op:Rp}{R:R2}{k:D->D->Option D}(hr:aT X (KQ op) R)(ho:cN X.K R k)(ha:SB X g m a fa)(hb:SB X g m b fb)(hm:Ml op b=false):SE X g m (.Compare a [op] [b] pos) (f2 fa fb k):=qP ho (FN hr ha hb hm)
def ig:D->Option Bool
|.bl b=>some b
|_=>none
def aN(f:FE):al->Res Bool:=fun r=>(f r).bind fun d=>bH (ig d)
theorem jq{op:Rp}{R:R2}{k:D->D->Option D}(hr:aT X (KQ op) R)(ho:cN X.K R k)(ha:SB X g m a fa)(hb:SB X g m b fb)(hm:Ml op b=false):SQ X g m (.Compare a [op] [b] pos) (aN (f2 fa fb k)):=by
 refine PT.imp (Ft hr ha hb hm) fun σ H Q ⟨r,G,si,q⟩=>?_;have e:aN (f2 fa fb k) r=(fa r).bind fun d1=>(fb r).bind fun d2=>(bH (k d1 d2)).bind fun d=>bH (ig d):=by unfold aN f2;cases fa r with
 |ok d1=>cases fb r <;> rfl
 |exc _=>rfl
 |stuck=>rfl
 rw[e]at q;refine i9 (R:=fun x y H2=>R x y H2 fun x H'=>∃k,x=V.bl k/\Q k H') si q fun d1 d2 v1 v2 G2 H2 w r1 r2 q3=>?_;obtain⟨d,e,q3⟩:=cv (aU q3);obtain⟨b,eb,q3⟩:=cv q3;cases d with
|bl b'=>cases eb;exact ho G2 H2 v1 v2 d1 d2 _ _ w.ok r1 r2 e fun v G' H' w' z=>⟨_,z.bl w'.ok,q3 G' H' (w.trans w')⟩
|_=>cases eb
end
instance decMul(i j:Int):Decidable (fL i j):=by unfold fL;infer_instance
instance decDiv(i j:Int):Decidable (gB i j):=by unfold gB;infer_instance
instance decPow(i j:Int):Decidable (gA i j):=by unfold gA;infer_instance
def jW(k:Int->Int->D):D->D->Option D
|.int a,.int b=>some (k a b)
|_,_=>none
def ju(C:Int->Int->Prop)[∀a b,Decidable (C a b)](k:Int->Int->D):D->D->Option D
|.int a,.int b=>if C a b then some (k a b)else none
|_,_=>none
@[simp] theorem ints2_int(k:Int->Int->D)(a b:Int):jW k (.int a) (.int b)=some (k a b):=rfl
@[simp] theorem intsC_int(C:Int->Int->Prop)[∀a b,Decidable (C a b)](k:Int->Int->D)(a b:Int):ju C k (.int a) (.int b)=if C a b then some (k a b)else none:=rfl
section
variable{K:W.Frag}
theorem mQ{gv:Int->Int->V}{gd:Int->Int->D}(hs:∀i j,Scl (gv i j) (gd i j)):cN K (iF gv) (jW gd):=by
 intro G H v1 v2 d1 d2 d Q g r1 r2 e q;unfold jW at e;split at e
 .cases e;exact⟨_,_,r1.int g,r2.int g,q _ G H (Grow.refl g) (.scl (hs _ _))⟩
 .cases e
theorem o5{C:Int->Int->Prop}[∀a b,Decidable (C a b)]{gv:Int->Int->V}{gd:Int->Int->D}(hs:∀i j,Scl (gv i j) (gd i j)):cN K (rI C gv) (ju C gd):=by
 intro G H v1 v2 d1 d2 d Q g r1 r2 e q;unfold ju at e;split at e
 .split at e
  .rename_i hc;cases e;exact⟨_,_,r1.int g,r2.int g,hc,q _ G H (Grow.refl g) (.scl (hs _ _))⟩
  .cases e
 .cases e
theorem cN.or{r r':R2}{k k':D->D->Option D}(h:cN K r k)(h':cN K r' k'):cN K (fun x y H Q=>r x y H Q\/r' x y H Q) (fun a b=>match k a b with|some d=>some d|none=>k' a b):=by intro G H v1 v2 d1 d2 d Q g r1 r2 e q;cases e1:k d1 d2 with
|some d'=>simp only[e1]at e;cases e;exact .inl (h G H v1 v2 d1 d2 d Q g r1 r2 e1 q)
|none=>simp only[e1]at e;exact .inr (h' G H v1 v2 d1 d2 d Q g r1 r2 e q)
end
abbrev fq:D->D->Option D:=jW fun a b=>.int (a-b)
abbrev cK:D->D->Option D:=ju fL fun a b=>.int (a*b)
abbrev jS:D->D->Option D:=ju gB fun a b=>.int (a/b)
abbrev bz:D->D->Option D:=ju (fun _ b=>0<b) fun a b=>.int (a%b)
abbrev h9:D->D->Option D:=ju gA fun a b=>.int (a^b.toNat)
abbrev jI:D->D->Option D:=jW fun a b=>.bl (decide (a<b))
abbrev vO:D->D->Option D:=jW fun a b=>.bl (decide (a<=b))
abbrev jK:D->D->Option D:=jW fun a b=>.bl (decide (b<a))
section
variable{X:Cx}{g:GE}{m:List Md}{e a b c:Expr}{f fa fb fc:FE}{pos:Pos}
theorem wJ(ha:SB X g m a fa)(hb:SB X g m b fb):SE X g m (.BinOp a .Sub b pos) (f2 fa fb fq):=jO Eg (mQ fun _ _=>.int _) ha hb
theorem jP(ha:SB X g m a fa)(hb:SB X g m b fb):SE X g m (.BinOp a .Mult b pos) (f2 fa fb cK):=jO Ee (o5 fun _ _=>.int _) ha hb
theorem xA(ha:SB X g m a fa)(hb:SB X g m b fb):SE X g m (.BinOp a .FloorDiv b pos) (f2 fa fb jS):=jO EG (o5 fun _ _=>.int _) ha hb
theorem ir(ha:SB X g m a fa)(hb:SB X g m b fb):SE X g m (.BinOp a .Mod b pos) (f2 fa fb bz):=jO Ed (o5 fun _ _=>.int _) ha hb
theorem BJ(ha:SB X g m a fa)(hb:SB X g m b fb):SE X g m (.BinOp a .Pow b pos) (f2 fa fb h9):=jO Ef (o5 fun _ _=>.int _) ha hb
theorem nB(ha:SB X g m a fa)(hb:SB X g m b fb):SQ X g m (.Compare a [.Lt] [b] pos) (aN (f2 fa fb jI)):=jq wV (mQ fun _ _=>.bl _) ha hb (j6 _)
theorem kE(ha:SB X g m a fa)(hb:SB X g m b fb):SQ X g m (.Compare a [.Gt] [b] pos) (aN (f2 fa fb jK)):=jq Cg (mQ fun _ _=>.bl _) ha hb (j6 _)
def f1(fa:FE)(k:D->Option D):FE:=fun r=>(fa r).bind fun d=>bH (k d)
def fB:D->Option D
|.int a=>some (.int (-a))
|_=>none
@[simp] theorem negI_int(a:Int):fB (.int a)=some (.int (-a)):=rfl
theorem qN(ha:SB X g m a fa):SE X g m (.UnaryOp .USub a pos) (f1 fa fB):=by
 refine PE.imp (Co DQ ha) fun σ H Q ⟨r,G,si,q⟩=>⟨r,G,si,a9 (aU q) fun d q1 v G1 H1 w1 r1=>?_⟩
 obtain⟨d',e,q2⟩:=cv q1;cases d with
|int i=>cases e;exact⟨i,r1.int w1.ok,q2 _ G1 H1 w1 (.scl (.int _))⟩
|_=>cases e
def gj:D->Option Bool
|.non=>some false
|.bl b=>some b
|.int i=>some (i != 0)
|.str y=>if y.length<=sizeLine then some ((y.length:Int) != 0)else none
|.lst ds=>some (! ds.isEmpty)
|.tup ds=>some (! ds.isEmpty)
|.dic kvs=>some (! kvs.isEmpty)
|.obj _ _=>none
theorem su{α β:Type}{F:α->β->Prop}{l:List α}{r:List β}(h:Paired F l r):l.isEmpty=r.isEmpty:=by cases h <;> rfl
theorem Ff{K:W.Frag}{G:GH}{H:Hp}{v:V}{d:D}{b:Bool}(gk:aC K G H)(h:RB K G H v d)(e:gj d=some b):kS K v H b:=by cases d with
|non=>cases e;rw[h.non gk];rfl
|bl b'=>cases e;rw[h.bl gk];rfl
|int i=>cases e;rw[h.int gk];rfl
|str y=>
  rw[h.str gk];have e':(if y.length<=sizeLine then some ((y.length:Int) != 0)else none)=some b:=e;by_cases hy:y.length<=sizeLine
  .rw[if_pos hy]at e';cases e';exact⟨hy,rfl⟩
  .rw[if_neg hy]at e';cases e'
|lst ds=>cases e;obtain⟨a,xs,rfl,s,r⟩:=h.lst gk;exact .inl ⟨xs,s,by rw[su r]⟩
|tup ds=>cases e;obtain⟨a,xs,rfl,s,r⟩:=h.tup gk;exact .inr (.inl ⟨xs,s,by rw[su r]⟩)
|dic kvs=>cases e;obtain⟨a,xs,rfl,s,r⟩:=h.dic gk;exact .inr (.inr ⟨xs,s,by rw[su r]⟩)
|obj _ _=>cases e
def cE(f:FE):al->Res Bool:=fun r=>(f r).bind fun d=>bH (gj d)
theorem iO(ha:SB X g m a fa)(he:∀whole,isTrue a X.env whole=(do let v <-whole;Rz a.pos;OI [v] (truthy v)):=by intro _;rfl):SQ X g m a (cE fa):=by
 refine PT.imp (Ha ha he) fun σ H Q ⟨r,G,si,q⟩=>⟨r,G,si,a9 (aU q) fun d q1 v G1 H1 w1 r1=>?_⟩
 obtain⟨b,e,q2⟩:=cv q1;exact⟨b,Ff w1.ok r1 e,q2 G1 H1 w1⟩
abbrev FQ:=al->Res Bool
def dS(p q:FQ):FQ:=fun r=>(p r).bind fun c=>if c=true then q r else .ok false
def gq(p q:FQ):FQ:=fun r=>(p r).bind fun c=>if c=true then .ok true else q r
def cZ(p:FQ):FQ:=fun r=>(p r).bind fun c=>.ok (! c)
variable{p q:FQ}{rest:List Expr}
theorem CB{α:Type}{r:Res α}{q:α->Prop}{x x':D->Prop}(h:fin r q x)(hx:∀e,x e->x' e):fin r q x':=by cases r with
|ok a=>exact h
|exc e=>exact hx e h
|stuck=>exact h
theorem eV{α:Type}{r:Res α}{σ:L2.St}{G G1:GH}{H H1:Hp}{P P':α->Prop}(h:fin r P (XW X σ G H))(w:Grow X.K G H G1 H1)(hp:∀a,P a->P' a):fin r P' (XW X σ G1 H1):=CB (a9 h hp) fun _ x=>x.grow w
theorem xv(ha:SQ X g m a p):SW X g m (.BoolOp .And [a] pos) p:=Fv ha
theorem mv(ha:SQ X g m a p):SW X g m (.BoolOp .Or [a] pos) p:=D5 ha
theorem wP(ha:SQ X g m a p)(hb:SW X g m (.BoolOp .And (b::rest) pos) q):SW X g m (.BoolOp .And (a::b::rest) pos) (dS p q):=by
 refine PW.imp (D4 ha hb) fun σ H Q ⟨r,G,si,k⟩=>⟨r,G,si,a9 (aU k) fun c k1 G1 H1 w1=>?_⟩
 cases c with
|true=>rw[if_pos rfl]at k1 ⊢;exact⟨r,G1,si.grow w1,eV k1 w1 fun b z G' H' w'=>z G' H' (w1.trans w')⟩
|false=>rw[if_neg i_]at k1 ⊢;exact k1 G1 H1 w1
theorem hV(ha:SQ X g m a p)(hb:SW X g m (.BoolOp .Or (b::rest) pos) q):SW X g m (.BoolOp .Or (a::b::rest) pos) (gq p q):=by
 refine PW.imp (Cq ha hb) fun σ H Q ⟨r,G,si,k⟩=>⟨r,G,si,a9 (aU k) fun c k1 G1 H1 w1=>?_⟩
 cases c with
|true=>rw[if_pos rfl]at k1 ⊢;exact k1 G1 H1 w1
|false=>rw[if_neg i_]at k1 ⊢;exact⟨r,G1,si.grow w1,eV k1 w1 fun b z G' H' w'=>z G' H' (w1.trans w')⟩
theorem SW.toQ(h:SW X g m e p):SQ X g m e p:=PW.pt h
theorem jN(ha:SQ X g m a p):SQ X g m (.UnaryOp .Not a pos) (cZ p):=PT.imp (D3 ha) fun σ H Q ⟨r,G,si,k⟩=>⟨r,G,si,a9 (aU k) fun c k1 G1 H1 w1=>k1 G1 H1 w1⟩
def fj(fa fb:FE):FE:=fun r=>(fa r).bind fun d=>(bH (ig d)).bind fun c=>if c=true then fb r else .ok (.bl false)
def J7(fa fb:FE):FE:=fun r=>(fa r).bind fun d=>(bH (ig d)).bind fun c=>if c=true then .ok (.bl true)else fb r
def kx(fa:FE):FE:=fun r=>(fa r).bind fun d=>(bH (ig d)).bind fun c=>.ok (.bl (! c))
theorem qO{op}(h:SE X g m a fa):SE X g m (.BoolOp op [a] pos) fa:=DS h
theorem qJ(ha:SE X g m a fa)(hb:SE X g m (.BoolOp .And (b::rest) pos) fb):SE X g m (.BoolOp .And (a::b::rest) pos) (fj fa fb):=by
 refine PE.imp (Eh ha hb) fun σ H Q ⟨r,G,si,k⟩=>⟨r,G,si,a9 (aU k) fun d k1 v G1 H1 w1 r1=>?_⟩
 obtain⟨c,e,k2⟩:=cv (aU k1);cases d with
|bl c'=>cases e;refine⟨_,r1.bl w1.ok,?_⟩;cases c with
 |true=>rw[if_pos rfl]at k2 ⊢;exact⟨r,G1,si.grow w1,eV k2 w1 fun b z v G' H' w'=>z v G' H' (w1.trans w')⟩
 |false=>rw[if_neg i_]at k2 ⊢;exact k2 _ G1 H1 w1 (.scl (.bl _))
|_=>cases e
theorem Cv(ha:SE X g m a fa):SE X g m (.UnaryOp .Not a pos) (kx fa):=by
 refine PE.imp (DR ha) fun σ H Q ⟨r,G,si,k⟩=>⟨r,G,si,a9 (aU k) fun d k1 v G1 H1 w1 r1=>?_⟩
 obtain⟨c,e,k2⟩:=cv (aU k1);cases d with
|bl c'=>cases e;exact⟨_,r1.bl w1.ok,k2 _ G1 H1 w1 (.scl (.bl _))⟩
|_=>cases e
def jm(p:FQ)(fa fb:FE):FE:=fun r=>(p r).bind fun c=>if c=true then fa r else fb r
theorem qL(hc:SQ X g m c p)(ha:SE X g m a fa)(hb:SE X g m b fb):SE X g m (.IfExp c a b pos) (jm p fa fb):=by
 refine PE.imp (GW hc ha hb) fun σ H Q ⟨r,G,si,k⟩=>⟨r,G,si,a9 (aU k) fun c k1 G1 H1 w1=>?_⟩
 cases c with
|true=>rw[if_pos rfl]at k1 ⊢;exact⟨r,G1,si.grow w1,eV k1 w1 fun b z v G' H' w'=>z v G' H' (w1.trans w')⟩
|false=>rw[if_neg i_]at k1 ⊢;exact⟨r,G1,si.grow w1,eV k1 w1 fun b z v G' H' w'=>z v G' H' (w1.trans w')⟩
variable{es:List Expr}{fl fr:al->Res (List D)}
def ae:al->Res (List D):=fun _=>.ok []
def ag(fa:FE)(fl:al->Res (List D)):al->Res (List D):=fun r=>(fa r).bind fun d=>(fl r).bind fun ds=>.ok (d::ds)
theorem bI:SA X g m [] ae:=PA.imp iU fun σ H Q ⟨r,G,si,k⟩=>k [] G H (Grow.refl si.gok) .nil
theorem bb(ha:SE X g m e fa)(hr:SA X g m es fl)(hs:m_ (e::es) X.env=(false,eval e X.env)::m_ es X.env:=by rfl):SA X g m (e::es) (ag fa fl):=by
 refine PA.imp (gb ha hr hs) fun σ H Q ⟨r,G,si,k⟩=>⟨r,G,si,a9 (aU k) fun d k1 v G1 H1 w1 r1=>⟨r,G1,si.grow w1,?_⟩⟩
 exact eV (aU k1) w1 fun ds z vs G2 H2 w2 r2=>z (v::vs) G2 H2 (w1.trans w2) (.cons (r1.mono w2.ge) r2)
theorem bq:gS X g m [] ae:=PA.imp iU fun σ H Q ⟨r,G,si,k⟩=>k [] G H (Grow.refl si.gok) .nil
theorem bp(ha:SB X g m e fa)(hr:gS X g m es fl)(hs:m_ (e::es) X.env=(false,eval e X.env)::m_ es X.env:=by rfl):gS X g m (e::es) (ag fa fl):=by
 refine PA.imp (gb ha hr hs) fun σ H Q ⟨r,G,si,k⟩=>⟨r,G,si,a9 (aU k) fun d k1 v G1 H1 w1 r1=>⟨r,G1,si.grow w1,?_⟩⟩
 exact eV (aU k1) w1 fun ds z vs G2 H2 w2 r2=>z (v::vs) G2 H2 (w1.trans w2) (.cons (r1.mono w2) r2)
def sz(ds:List D):Option (List D):=if ds.length<=sizeLine then some ds else none
theorem qG{ds ds':List D}(h:sz ds=some ds'):ds'=ds/\ds.length<=sizeLine:=by
 unfold sz at h;split at h
 .rename_i hl;cases h;exact⟨rfl,hl⟩
 .cases h
theorem BN{ds:List D}(h:ds.length<=sizeLine):sz ds=some ds:=if_pos h
def dv(fl:al->Res (List D)):FE:=fun r=>(fl r).bind fun ds=>(bH (sz ds)).bind fun ds=>.ok (.tup ds)
def dN(fl:al->Res (List D)):FE:=fun r=>(fl r).bind fun ds=>(bH (sz ds)).bind fun ds=>.ok (.lst ds)
theorem fQ{x1}(h:SA X g m es fl):SE X g m (.Tuple es x1 pos) (dv fl):=by
 refine PE.imp (DU h) fun σ H Q ⟨r,G,si,k⟩=>⟨r,G,si,a9 (aU k) fun ds k1 vs G1 H1 w1 r1=>?_⟩
 obtain⟨ds',e,k2⟩:=cv (aU k1);obtain⟨rfl,hl⟩:=qG e;have hlen:=Paired.length r1;refine⟨by omega,fun p hp=>?_⟩;exact k2 _ _ _ (w1.trans (Grow.newF (d:=.tup ds') w1.ok hp (.tup (.inl bO) r1))) (.ref dh)
theorem fP(h:SA X g m es fl):SO X g m (.List es pos) (dN fl):=by
 refine PE.imp (Ej h) fun σ H Q ⟨r,G,si,k⟩=>⟨r,G,si,a9 (aU k) fun ds k1 vs G1 H1 w1 r1=>?_⟩
 obtain⟨ds',e,k2⟩:=cv (aU k1);obtain⟨rfl,hl⟩:=qG e;have hlen:=Paired.length r1;refine⟨by omega,fun p hp=>?_⟩;have hn:H p=none:=by cases q:H p with
 |none=>rfl
 |some o=>rw[w1.he _ _ q]at hp;cases hp
 exact k2 p G1 _ (w1.trans (Grow.new w1.ok hp _)) hn ⟨w1.ok.isN hp,.lst bO r1⟩
end
def me(K:W.Frag)(r:List V->Hp->VK->Prop)(k:List D->Option D):Prop:=∀(G:GH)(H:Hp)(vs:List V)(ds:List D)(d:D)(Q:VK),aC K G H->Paired (RB K G H) vs ds->k ds=some d ->(∀v G' H',Grow K G H G' H'->RG K G' v d->Q v H')->r vs H Q
def wj(K:W.Frag)(r:List V->Hp->VK->Prop)(k:List D->Option D):Prop:=∀(G:GH)(H:Hp)(vs:List V)(ds:List D)(d:D)(Q:VK),aC K G H->Paired (RB K G H) vs ds->k ds=some d ->(∀a G' H',Grow K G H G' H'->H a=none->Own K G' H' a d->Q (.ref a) H')->r vs H Q
def fC(fl:al->Res (List D))(k:List D->Option D):FE:=fun r=>(fl r).bind fun ds=>bH (k ds)
theorem Grow.back{K:W.Frag}{G G1:GH}{H H1:Hp}(w:Grow K G H G1 H1){a:Addr}(hn:H1 a=none):H a=none:=by cases q:H a with
|none=>rfl
|some o=>rw[w.he _ _ q]at hn;cases hn
section
variable{X:Cx}{g:GE}{m:List Md}{e a b c:Expr}{f fa fb fc:FE}{pos p p2:Pos}{es:List Expr}{fl:al->Res (List D)}{x:Str}{id T:String}{R:List V->Hp->VK->Prop}{k:List D->Option D}
theorem jb(hk:me X.K R k)(h:PE X e (qk R (vB X g m fl))):SE X g m e (fC fl k):=by
 refine PE.imp h fun σ H Q ⟨r,G,si,q⟩=>⟨r,G,si,a9 (aU q) fun ds q1 vs G1 H1 w1 r1=>?_⟩
 obtain⟨d,e,q2⟩:=cv q1;exact hk G1 H1 vs ds d Q w1.ok r1 e fun v G' H' w' z=>q2 v G' H' (w1.trans w') z
theorem wH(hk:wj X.K R k)(h:PE X e (qk R (vB X g m fl))):SO X g m e (fC fl k):=by
 refine PE.imp h fun σ H Q ⟨r,G,si,q⟩=>⟨r,G,si,a9 (aU q) fun ds q1 vs G1 H1 w1 r1=>?_⟩
 obtain⟨d,e,q2⟩:=cv q1;exact hk G1 H1 vs ds d Q w1.ok r1 e fun v G' H' w' hn z=>q2 v G' H' (w1.trans w') (w1.back hn) z
def lenD:List D->Option D
|[.str y]=>if y.length<=sizeLine then some (.int y.length)else none
|[.lst ds]=>some (.int ds.length)
|[.tup ds]=>some (.int ds.length)
|[.dic kvs]=>some (.int kvs.length)
|_=>none
theorem CS{K:W.Frag}:me K (fun xs H Q=>(∃x n,xs=[x]/\nQ K x H n/\Q (.int n) H)\/∃a kvs,xs=[V.ref a]/\Rd H a (.dK kvs)/\Q (.int kvs.length) H) lenD:=by
 intro G H vs ds d Q gk rs e q;unfold lenD at e;split at e
 .split at e
  .cases e;cases rs with
  |cons r t=>cases t;exact .inl ⟨_,_,rfl,by rw[r.str gk];exact⟨by assumption,rfl⟩,q _ G H (Grow.refl gk) (.scl (.int _))⟩
  .cases e
 .cases e;cases rs with
 |cons r t=>cases t;obtain⟨a,xs,rfl,s,r⟩:=r.lst gk;have:=Paired.length r;exact .inl ⟨_,_,rfl,.inl ⟨xs,s,rfl⟩,q _ G H (Grow.refl gk) (.scl (by rw[this];exact .int _))⟩
 .cases e;cases rs with
 |cons r t=>cases t;obtain⟨a,xs,rfl,s,r⟩:=r.tup gk;have:=Paired.length r;exact .inl ⟨_,_,rfl,.inr ⟨xs,s,rfl⟩,q _ G H (Grow.refl gk) (.scl (by rw[this];exact .int _))⟩
 .cases e;cases rs with
 |cons r t=>cases t;obtain⟨a,xs,rfl,s,r⟩:=r.dic gk;have:=Paired.length r;exact .inr ⟨_,_,rfl,s,q _ G H (Grow.refl gk) (.scl (by rw[this];exact .int _))⟩
 .cases e
theorem gU(hg:Gl X "len")(hm:X.mg "len" = none)(ha:gS X g m (e::es) fl)(he:m_ (e::es) X.env=(false,eval e X.env)::m_ es X.env:=by rfl)(hpl:(backTo pos (m_ es X.env)).any (·.1)=false:=by rfl):SE X g m (.Call (.Name "len" p) (e::es) [] pos) (fC fl lenD):=jb CS (mV (dW.or F6 GG) hg hm PySem.boot_len ha (by decide) (by decide) he hpl)
def iM:List D->Option D
|[.lst ds]=>some (.lst ds)
|[.tup ds]=>some (.lst ds)
|_=>none
theorem Eo{K:W.Frag}:wj K (fun xs H Q=>∃p ys,xs=[.ref p]/\(aO K H p ys\/bF K H p ys)/\∀l,H l=none->Q (.ref l) (upd H l (.lst ys))) iM:=by
 intro G H vs ds d Q gk rs e q;have fin:∀{ys:List V}{zs:List D},ba K G ys zs->(∀(a:Addr)(G':GH)(H':Hp),Grow K G H G' H'->H a=none->Own K G' H' a (.lst zs)->Q (.ref a) H')->∀l,H l=none->Q (.ref l) (upd H l (.lst ys)):=fun r q l hl=>q l G _ (Grow.new gk hl _) hl ⟨gk.isN hl,.lst bO r⟩;unfold iM at e;split at e
 .cases e;cases rs with
 |cons r t=>cases t;obtain⟨a,xs,rfl,s,r⟩:=r.lst gk;exact⟨a,xs,rfl,.inl s,fin r q⟩
 .cases e;cases rs with
 |cons r t=>cases t;obtain⟨a,xs,rfl,s,r⟩:=r.tup gk;exact⟨a,xs,rfl,.inr s,fin r q⟩
 .cases e
theorem om(hg:Gl X "list")(hm:X.mg "list" = none)(ha:gS X g m (e::es) fl)(he:m_ (e::es) X.env=(false,eval e X.env)::m_ es X.env:=by rfl)(hpl:(backTo pos (m_ es X.env)).any (·.1)=false:=by rfl):SO X g m (.Call (.Name "list" p) (e::es) [] pos) (fC fl iM):=wH Eo (m4 JB hg hm rfl ha (by decide) (by decide) he hpl)
def tupD:List D->Option D
|[.lst ds]=>some (.tup ds)
|[.tup ds]=>some (.tup ds)
|_=>none
theorem DM{K:W.Frag}:me K (fun xs H Q=>∃p ys,xs=[.ref p]/\((aO K H p ys/\∀l,H l=none->Q (.ref l) (upd H l (.tup ys)))\/(bF K H p ys/\Q (.ref p) H))) tupD:=by
 intro G H vs ds d Q gk rs e q;unfold tupD at e;split at e
 .cases e;cases rs with
 |cons r t=>cases t;obtain⟨a,xs,rfl,s,r⟩:=r.lst gk;exact⟨a,xs,rfl,.inl ⟨s,fun l hl=>q _ _ _ (Grow.newF gk hl (.tup (.inl bO) r)) (.ref dh)⟩⟩
 .cases e;cases rs with
 |cons r t=>
   cases t;rcases r with r|⟨a,_,o⟩
   .obtain⟨a,xs,rfl,s,r'⟩:=r.tup gk;exact⟨a,xs,rfl,.inr ⟨s,q _ G H (Grow.refl gk) r⟩⟩
   .cases o.ob
 .cases e
theorem gK(hg:Gl X "tuple")(hm:X.mg "tuple" = none)(ha:gS X g m (e::es) fl)(he:m_ (e::es) X.env=(false,eval e X.env)::m_ es X.env:=by rfl)(hpl:(backTo pos (m_ es X.env)).any (·.1)=false:=by rfl):SE X g m (.Call (.Name "tuple" p) (e::es) [] pos) (fC fl tupD):=jb DM (m4 JO hg hm rfl ha (by decide) (by decide) he hpl)
def ixD:D->D->Option D
|.lst ds,.int i=>d6 ds i
|.tup ds,.int i=>d6 ds i
|.str z,.int i=>if z.length<=sizeLine then(d6 z.cps.toList i).map fun c=>.str ⟨#[c]⟩else none
|_,_=>none
theorem wm{K:W.Frag}{G:GH}{xs:List V}{ds:List D}{i:Int}{d:D}(r:ba K G xs ds)(h:d6 ds i=some d):∃v,d6 xs i=some v/\RG K G v d:=by unfold d6 at h ⊢;rw[Paired.length r];cases e:fW ds.length i with
|none=>rw[e]at h;cases h
|some j=>rw[e]at h;exact Paired.get r h
theorem qF{K:W.Frag}:cN K (vJ K) ixD:=by
 intro G H v1 v2 d1 d2 d Q gk r1 r2 e q;unfold ixD at e;split at e
 .obtain⟨a,xs,rfl,s,r⟩:=r1.lst gk;obtain⟨v,ev,rv⟩:=wm r e;exact .inl ⟨a,xs,_,v,rfl,r2.int gk,s,ev,q v G H (Grow.refl gk) rv⟩
 .obtain⟨a,xs,rfl,s,r⟩:=r1.tup gk;obtain⟨v,ev,rv⟩:=wm r e;exact .inr (.inl ⟨a,xs,_,v,rfl,r2.int gk,s,ev,q v G H (Grow.refl gk) rv⟩)
 .split at e
  .rename_i z i hz;cases ec:d6 z.cps.toList i with
  |none=>rw[ec]at e;cases e
  |some c=>rw[ec]at e;cases e;exact .inr (.inr ⟨z,i,c,r1.str gk,r2.int gk,hz,ec,q _ G H (Grow.refl gk) (.scl (.str _))⟩)
  .cases e
 .cases e
def bD{α:Type}(xs:List α)(lo hi:Option Int):List α:=(xs.drop (HT.sIx xs.length 0 lo)).take (HT.sIx xs.length xs.length hi-HT.sIx xs.length 0 lo)
theorem nX{α β:Type}{F:α->β->Prop}{xs:List α}{ds:List β}(r:Paired F xs ds)(lo hi:Option Int):Paired F (bD xs lo hi) (bD ds lo hi):=by unfold bD;rw[Paired.length r];exact Paired.tk _ (Paired.dr _ r)
abbrev FP:=al->Res (Option Int)
def tP(X:Cx)(g:GE)(m:List Md)(f:FP):TO:=fun σ H Q=>∃r G,SI X g m r G σ H/\fin (f r) (fun o=>∀G' H',Grow X.K G H G' H'->Q o H') (XW X σ G H)
def l8(X:Cx)(g:GE)(m:List Md)(e:Option Expr)(f:FP):Prop:=PO X e (tP X g m f)
theorem PO.imp{X:Cx}{e:Option Expr}{t t':TO}(h:PO X e t)(i:∀σ H Q,t' σ H Q->t σ H Q):PO X e t':=fun pz s σ H Q I q=>h pz s σ H Q I (i σ H Q q)
def Ko:D->Option Int
|.int i=>some i
|_=>none
def gF(f:FE):FP:=fun r=>(f r).bind fun d=>(bH (Ko d)).bind fun i=>.ok (some i)
theorem iS:l8 X g m none fun _=>.ok none:=PO.imp Fp fun σ H Q ⟨r,G,si,q⟩=>q G H (Grow.refl si.gok)
theorem iT(h:SB X g m e f):l8 X g m (some e) (gF f):=by
 refine PO.imp (Fq h) fun σ H Q ⟨r,G,si,q⟩=>⟨r,G,si,a9 (aU q) fun d q1 v G1 H1 w1 r1=>?_⟩
 obtain⟨i,e,q2⟩:=cv (aU q1);cases d with
|int j=>cases e;exact⟨_,r1.int w1.ok,q2 G1 H1 w1⟩
|_=>cases e
def ky(d:D)(lo hi:Option Int):Option D:=match d with
|.tup ds=>if HT.sIx ds.length 0 lo=0/\HT.sIx ds.length ds.length hi=ds.length then none else some (.tup (bD ds lo hi))
|.lst ds=>some (.lst (bD ds lo hi))
|_=>none
def gQ(fa:FE)(fl fh:FP):FE:=fun r=>(fa r).bind fun d=>(fl r).bind fun lo=>(fh r).bind fun hi=>bH (ky d lo hi)
theorem DD{R:V->Option Int->Option Int->Hp->Prop}{fl fh:FP}{r:al}{G:GH}{σ:L2.St}{H:Hp}{q:D->Prop}(si:SI X g m r G σ H)(h:fin (gQ fa fl fh r) q (XW X σ G H))(hk:∀d lo hi v G2 H2 d',Grow X.K G H G2 H2->RB X.K G2 H2 v d->ky d lo hi=some d'->q d'->R v lo hi H2):tB X g m fa σ H fun x H1=>tP X g m fl σ H1 fun l H2=>tP X g m fh σ H2 fun u H3=>R x l u H3:=by refine⟨r,G,si,a9 (aU h) fun d h1 v G1 H1 w1 r1=>⟨r,G1,si.grow w1,eV (aU h1) w1 fun lo h2 G2 H2 w2=>⟨r,G2,(si.grow w1).grow w2,?_⟩⟩⟩;refine eV (aU h2) (w1.trans w2) fun hi h3 G3 H3 w3=>?_;obtain⟨d',e,h4⟩:=cv h3;exact hk d lo hi v G3 H3 d' ((w1.trans w2).trans w3) ((r1.mono w2).mono w3) e h4
theorem jr{lo hi:Option Expr}{fl fh:FP}(he:SB X g m e f)(hl:l8 X g m lo fl)(hu:l8 X g m hi fh):SE X g m (.Subscript e (.Slice lo hi none p2) pos) (gQ f fl fh):=by refine PE.imp (za (ij.or yG xE) he hl hu) fun σ H Q ⟨r,G,si,q⟩=>?_;refine DD si q fun d lo hi v G2 H2 d' w r1 e q2=>?_;cases d with
|tup ds=>
  obtain⟨a,xs,rfl,s,r⟩:=r1.tup w.ok;have e':(if HT.sIx ds.length 0 lo=0/\HT.sIx ds.length ds.length hi=ds.length then none else some (D.tup (bD ds lo hi)))=some d':=e;by_cases hw:HT.sIx ds.length 0 lo=0/\HT.sIx ds.length ds.length hi=ds.length
  .rw[if_pos hw]at e';cases e'
  rw[if_neg hw]at e';cases e';rw[<-Paired.length r]at hw;refine .inr ⟨a,xs,rfl,s,hw,fun p hp=>?_⟩;exact q2 _ _ _ (w.trans (Grow.newF w.ok hp (.tup (.inl bO) (nX r lo hi)))) (.ref dh)
|lst ds=>cases e;obtain⟨a,xs,rfl,s,r⟩:=r1.lst w.ok;exact .inl ⟨a,xs,rfl,s,fun p hp=>q2 _ _ _ (w.trans (Grow.newF w.ok hp (.lst (.inl bO) (nX r lo hi)))) (.ref dh)⟩
|_=>cases e
end
inductive Out where
 |nx (r:al)|rt (d:D)|bk (r:al)|ct (r:al)|exc (x:D) (r:al)|stuck
abbrev FS:=al->Out
def aI(G G':GH):Prop:=∀a d,G a=some d->G' a=some d
theorem aI.refl(G:GH):aI G G:=fun _ _ e=>e
theorem aI.trans{G G1 G2:GH}(a:aI G G1)(b:aI G1 G2):aI G G2:=fun x d e=>b x d (a x d e)
def forget(m:List Md)(r:al):al:=LR (fun md o=>if md=Md.sh then o else none) m r
def eQ(m:List Md):List Md:=m.map fun _=>Md.sh
theorem nh{m:List Md}{r:al}{i:Nat}{d:D}(h:(forget m r)[i]? = some (some d)):r[i]? = some (some d)/\m[i]? = some .sh:=by unfold forget at h;rw[O_]at h;cases e1:m[i]? with
|none=>rw[e1]at h;cases h
|some md=>cases e2:r[i]? with
 |none=>rw[e1,e2]at h;cases h
 |some o=>
   rw[e1,e2]at h;have h':(if md=Md.sh then o else none)=some d:=G_ h;split at h'
   .rename_i hm;subst hm;rw[h'];exact⟨rfl,rfl⟩
   .cases h'
section
variable{X:Cx}{g:GE}{m:List Md}{r:al}{G:GH}{st:L2.St}{H:Hp}
theorem SI.forget(s:SI X g m r G st H):SI X g (eQ m) (forget m r) G st H where
 gok:=s.gok
 old:=s.old
 ge:=s.ge
 gf:=s.gf
 lm:=by rw[eQ,l_];exact s.lm
 lr:=by rw[DL.forget,NL,s.lm,s.lr,Nat.min_self]
 sh:=fun i d h _=>s.sh i d (nh h).1 (nh h).2
 ow:=fun i d h hm=>by rw[eQ,x_,(nh h).2]at hm;cases hm
 bw:=fun i d h hm=>by rw[eQ,x_,(nh h).2]at hm;cases hm
 dis:=fun i j a d e _ h _ hm=>by rw[eQ,x_,(nh h).2]at hm;cases hm
 lk:=fun i o _ hm=>by rw[eQ,x_]at hm;cases q:m[i]? <;> rw[q]at hm <;> cases hm
theorem SI.set(s:SI X g m r G st H)(i:Nat){v:V}{d:D}(hv:RG X.K G v d):SI X g (m.set i .sh) (r.set i (some d)) G (st.set i (some v)) H where
 gok:=s.gok
 old:=s.old
 ge:=s.ge
 gf:=s.gf
 lm:=by simp[s.lm]
 lr:=by simp[s.lr]
 sh:=fun j e h hm=>by
  by_cases hij:i=j
  .subst hij;have hl:i<r.length:=by have:=(c_.mp h).1;simpa using this
   rw[p_ hl]at h;cases h;exact⟨v,by rw[p_ (by rw[<-s.lr];exact hl)],hv⟩
  .rw[g_ hij]at h hm;rw[g_ hij];exact s.sh j e h hm
 ow:=fun j e h hm=>by
  by_cases hij:i=j
  .subst hij;have hl:i<m.length:=by have:=(c_.mp hm).1;simpa using this
   rw[p_ hl]at hm;cases hm
  .rw[g_ hij]at h hm;rw[g_ hij];exact s.ow j e h hm
 bw:=fun j e h hm=>by
  by_cases hij:i=j
  .subst hij;have hl:i<m.length:=by have:=(c_.mp hm).1;simpa using this
   rw[p_ hl]at hm;cases hm
  .rw[g_ hij]at h hm;rw[g_ hij];exact s.bw j e h hm
 dis:=fun j k a d1 d2 hjk h1 h2 hm hm' q1 q2=>by
  have hij:i≠j:=by
   rintro rfl
   have hl:i<m.length:=by have:=(c_.mp hm).1;simpa using this
   rw[p_ hl]at hm;cases hm
  have hik:i≠k:=by
   rintro rfl
   have hl:i<m.length:=by have:=(c_.mp h2).1;rw[NG,s.lr,<-s.lm]at this;exact this
   rw[p_ hl]at hm';cases hm'
  rw[g_ hij]at h1 hm q1;rw[g_ hik]at h2 hm' q2;exact s.dis j k a d1 d2 hjk h1 h2 hm hm' q1 q2
 lk:=fun j o hj hm=>by
  have hij:i≠j:=by
   rintro rfl
   have hl:i<m.length:=by have:=(c_.mp hm).1;simpa using this
   rw[p_ hl]at hm;cases hm
  rw[g_ hij]at hm;have:=s.lk j o hj hm;exact⟨by rw[g_ hij];exact this.1,fun d h=>this.2 d (by rw[g_ hij]at h;exact h)⟩
theorem SI.setO(s:SI X g m r G st H)(i:Nat){a:Addr}{d:D}(ho:Own X.K G H a d)(h0:g.h0 a=none)(hx:∀(j:Nat)(b:Addr)(e:D),r[j]? = some (some e)->m[j]? = some Md.ow->st[j]? = some (some (V.ref b))->b≠a):SI X g (m.set i .ow) (r.set i (some d)) G (st.set i (some (V.ref a))) H where
 gok:=s.gok
 old:=s.old
 ge:=s.ge
 gf:=s.gf
 lm:=by simp[s.lm]
 lr:=by simp[s.lr]
 sh:=fun j e h hm=>by
  by_cases hij:i=j
  .subst hij;have hl:i<m.length:=by have:=(c_.mp hm).1;simpa using this
   rw[p_ hl]at hm;cases hm
  .rw[g_ hij]at h hm;rw[g_ hij];exact s.sh j e h hm
 ow:=fun j e h hm=>by
  by_cases hij:i=j
  .subst hij;have hl:i<r.length:=by have:=(c_.mp h).1;simpa using this
   rw[p_ hl]at h;cases h;exact⟨a,by rw[p_ (by rw[<-s.lr];exact hl)],ho,h0⟩
  .rw[g_ hij]at h hm;rw[g_ hij];exact s.ow j e h hm
 bw:=fun j e h hm=>by
  by_cases hij:i=j
  .subst hij;have hl:i<m.length:=by have:=(c_.mp hm).1;simpa using this
   rw[p_ hl]at hm;cases hm
  .rw[g_ hij]at h hm;rw[g_ hij];exact s.bw j e h hm
 dis:=fun j k b d1 d2 hjk h1 h2 hm hm' q1 q2=>by
  by_cases hij:i=j
  .subst hij;rw[g_ hjk]at h2 hm' q2;have hl:i<st.length:=by have:=(c_.mp q1).1;simpa using this
   rw[p_ hl]at q1;have e:a=b:=by injection q1 with q1;injection q1 with q1;injection q1
   exact hx k b d2 h2 hm' q2 e.symm
  .by_cases hik:i=k
   .subst hik;rw[g_ hij]at h1 hm q1;have hl:i<st.length:=by have:=(c_.mp q2).1;simpa using this
    rw[p_ hl]at q2;have e:a=b:=by injection q2 with q2;injection q2 with q2;injection q2
    exact hx j b d1 h1 hm q1 e.symm
   .rw[g_ hij]at h1 hm q1;rw[g_ hik]at h2 hm' q2;exact s.dis j k b d1 d2 hjk h1 h2 hm hm' q1 q2
 lk:=fun j o hj hm=>by
  have hij:i≠j:=by
   rintro rfl
   have hl:i<m.length:=by have:=(c_.mp hm).1;simpa using this
   rw[p_ hl]at hm;cases hm
  rw[g_ hij]at hm;have:=s.lk j o hj hm;exact⟨by rw[g_ hij];exact this.1,fun d h=>this.2 d (by rw[g_ hij]at h;exact h)⟩
theorem SI.other(s:SI X g m r G st H){p:Addr}(hp:G p=none)(h0:g.h0 p=none)(hm:∀(i:Nat),m[i]?≠some Md.ow)(o:HO):SI X g m r G st (upd H p o) where
 gok:=fun b e h=>(s.gok b e h).mono (fun _ _ z=>z) fun o' q=>by rw[bg (by rintro rfl;rw[hp]at h;cases h)];exact q
 old:=fun b o' h=>by rw[bg (by rintro rfl;rw[h0]at h;cases h)];exact s.old b o' h
 ge:=s.ge
 gf:=s.gf
 lm:=s.lm
 lr:=s.lr
 sh:=s.sh
 ow:=fun i d _ h=>absurd h (hm i)
 bw:=fun i d h1 h2=>by
  obtain⟨v,h3,h4⟩:=s.bw i d h1 h2;refine⟨v,h3,?_⟩;rcases h4 with h4|⟨a,rfl,h4,h5⟩
  .exact .inl h4
  .have ha:a≠p:=by rintro rfl;exact h5 h0
   exact .inr ⟨a,rfl,⟨h4.un,h4.ob.mono (fun _ _ z=>z) fun o' z=>by rw[bg ha];exact z⟩,h5⟩
 dis:=fun i j a d e _ _ _ h=>absurd h (hm i)
 lk:=s.lk
theorem SI.less(s:SI X g m r G st H){r':al}(hl:r'.length=r.length)(h:∀(i:Nat) d,r'[i]? = some (some d)->r[i]? = some (some d)):SI X g m r' G st H:=⟨s.gok,s.old,s.ge,s.gf,s.lm,hl.trans s.lr,fun i d a b=>s.sh i d (h i d a) b,fun i d a b=>s.ow i d (h i d a) b,fun i d a b=>s.bw i d (h i d a) b,fun i j a d e n p q x y=>s.dis i j a d e n (h i d p) (h j e q) x y,fun i o hi hm=>by have:=s.lk i o hi hm;exact⟨this.1,fun d hd=>this.2 d (h i d hd)⟩⟩
theorem SI.held(s:SI X g m r G st H){j:Nat}{b:Addr}{e:D}(h:r[j]? = some (some e))(hm:m[j]? = some .ow)(hs:st[j]? = some (some (V.ref b))):H b≠none:=by
 obtain⟨a,h1,h2,_⟩:=s.ow j e h hm;rw[hs]at h1;injection h1 with h1;injection h1 with h1;injection h1 with h1
 rw[h1];exact h2.ob.isS
theorem SI.new(s:SI X g m r G st H){a:Addr}(hn:H a=none):g.h0 a=none:=by cases q:g.h0 a with
|none=>rfl
|some o=>rw[s.old _ _ q]at hn;cases hn
theorem SI.setN(s:SI X g m r G st H){G':GH}{H':Hp}(w:Grow X.K G H G' H')(i:Nat){a:Addr}{d:D}(hn:H a=none)(ho:Own X.K G' H' a d):SI X g (m.set i .ow) (r.set i (some d)) G' (st.set i (some (V.ref a))) H':=by
 refine(s.grow w).setO i ho ?_ fun j b e h1 h2 h3=>?_
 .cases q:g.h0 a with
 |none=>rfl
 |some o=>rw[s.old _ _ q]at hn;cases hn
 .rintro rfl
  exact s.held h1 h2 h3 hn
theorem SI.mut(s:SI X g m r G st H){i:Nat}{d:D}(hm:m[i]? = some .ow)(hd:r[i]? = some (some d)):∃a,st[i]? = some (some (V.ref a))/\Own X.K G H a d/\∀(o':HO)(d':D),OwnO X.K G (upd H a o') a d'->SI X g m (r.set i (some d')) G st (upd H a o'):=by
 obtain⟨a,h1,h2,h3⟩:=s.ow i d hd hm;have hl:i<r.length:=(c_.mp hd).1;refine⟨a,h1,h2,fun o' d' ob=>?_⟩;have oth:∀(j:Nat)(b:Addr)(e:D),j≠i->r[j]? = some (some e)->m[j]? = some .ow->st[j]? = some (some (V.ref b))->b≠a:=fun j b e hj q1 q2 q3 z=>by subst z;exact s.dis i j b d e (Mh hj) hd q1 hm q2 h1 q3
 refine⟨fun b e h=>?_,fun b o h=>?_,s.ge,s.gf,s.lm,by simp[s.lr],?_,?_,?_,?_,fun j o hj hm'=>?_⟩
 .have hb:b≠a:=by rintro rfl;rw[h2.un]at h;cases h
  exact(s.gok b e h).mono (fun _ _ z=>z) fun o q=>by rw[bg hb];exact q
 .have hb:b≠a:=by rintro rfl;rw[h3]at h;cases h
  rw[bg hb];exact s.old b o h
 .intro j e h hm';have hij:i≠j:=by rintro rfl;rw[hm]at hm';cases hm'
  rw[g_ hij]at h;exact s.sh j e h hm'
 .intro j e h hm';by_cases hij:i=j
  .subst hij;rw[p_ hl]at h;cases h;exact⟨a,h1,⟨h2.un,ob⟩,h3⟩
  .rw[g_ hij]at h;obtain⟨b,q1,q2,q3⟩:=s.ow j e h hm';have hb:=oth j b e (Mh hij) h hm' q1;exact⟨b,q1,⟨q2.un,q2.ob.mono (fun _ _ z=>z) fun o z=>by rw[bg hb];exact z⟩,q3⟩
 .intro j e h hm';have hij:i≠j:=by rintro rfl;rw[hm]at hm';cases hm'
  rw[g_ hij]at h;obtain⟨v,q1,q2⟩:=s.bw j e h hm';refine⟨v,q1,?_⟩;rcases q2 with q2|⟨b,rfl,q2,q3⟩
  .exact .inl q2
  .have hb:b≠a:=by rintro rfl;exact q3 h3
   exact .inr ⟨b,rfl,⟨q2.un,q2.ob.mono (fun _ _ z=>z) fun o z=>by rw[bg hb];exact z⟩,q3⟩
 .have bound:∀(j:Nat) e,(r.set i (some d'))[j]? = some (some e)->∃e',r[j]? = some (some e'):=fun j e h=>by
   by_cases hij:i=j
   .subst hij;exact⟨d,hd⟩
   .rw[g_ hij]at h;exact⟨e,h⟩
  intro j k b d1 d2 hjk q1 q2 p1 p2 z1 z2;obtain⟨e1,q1⟩:=bound j d1 q1;obtain⟨e2,q2⟩:=bound k d2 q2;exact s.dis j k b e1 e2 hjk q1 q2 p1 p2 z1 z2
 .have hij:i≠j:=by rintro rfl;rw[hm]at hm';cases hm'
  have:=s.lk j o hj hm';exact⟨this.1,fun d'' h=>this.2 d'' (by rw[g_ hij]at h;exact h)⟩
end
def RV(ro:Bool)(K:W.Frag)(H0:Hp)(G:GH)(H:Hp)(v:V)(d:D):Prop:=match ro with
|false=>RG K G v d
|true=>(∃a,v=.ref a/\H0 a=none/\Own K G H a d)\/(d=.non/\v=.non)
theorem RV.toF{K:W.Frag}{H0:Hp}{G0 G:GH}{H:Hp}{v:V}{d:D}(w:Grow K G0 H0 G H)(h:RV true K H0 G H v d):(∃G',Grow K G0 H0 G' H/\RG K G' v d)\/∃a,∀ob,∃G',Grow K G0 H0 G' (fz H a ob)/\RG K G' v d:=by
 rcases h with⟨a,rfl,hn,ho⟩|⟨rfl,rfl⟩
 .exact .inr ⟨a,fun ob=>⟨_,w.frz hn ho ob,.ref dh⟩⟩
 .exact .inl ⟨G,w,.scl .non⟩
def bZ(X:Cx)(g:GE)(ro:Bool)(m' mb:List Md)(G:GH)(D:Ends):Out->Prop
|.nx r'=>∀σ' G' H',aI G G'->SI X g m' r' G' σ' H'->D.nx σ' H'
|.rt d=>∀v G' H',Grow X.K g.gh g.h0 G' H'->RV ro X.K g.h0 G' H' v d->D.rt v H'
|.bk r'=>∀σ' G' H',aI G G'->SI X g mb r' G' σ' H'->D.bk σ' H'
|.ct r'=>∀σ' G' H',aI G G'->SI X g mb r' G' σ' H'->D.ct σ' H'
|.exc x r'=>∀pz e s' σ' G' H',aI G G'->SI X g (eQ m') r' G' σ' H'->Inv X pz σ' H' s'->BC X σ' G' H' e x s'->X.xe e s'
|.stuck=>False
def tS(X:Cx)(g:GE)(ro:Bool)(m m' mb:List Md)(f:FS):TS:=fun D σ H=>∃r G,SI X g m r G σ H/\bZ X g ro m' mb G D (f r)
def SS(X:Cx)(g:GE)(ro:Bool)(mb m:List Md)(st:Stmt)(f:FS)(m':List Md):Prop:=m'.length=m.length/\PS X st (tS X g ro m m' mb f)
def fH(X:Cx)(g:GE)(ro:Bool)(mb m:List Md)(st:List Stmt)(f:FS)(m':List Md):Prop:=m'.length=m.length/\dU X st (tS X g ro m m' mb f)
theorem pd{m m':List Md}(h:m'.length=m.length):eQ m'=eQ m:=by unfold eQ;rw[LY,LY,h]
theorem bZ.x{X:Cx}{g:GE}{ro:Bool}{m m' mb:List Md}{r:al}{G:GH}{D:Ends}{σ:L2.St}{H:Hp}{x:DL.D}(h:bZ X g ro m' mb G D (.exc x (forget m r)))(si:SI X g m r G σ H)(hl:m'.length=m.length):XW X σ G H x:=fun pz e s' G' H' w I ex=>h pz e s' σ G' H' w.ge (by rw[pd hl];exact(si.grow w).forget) I ex
section
variable{X:Cx}{g:GE}{ro:Bool}{m m' m1 mb:List Md}{e a b c tg:Expr}{f fa fb fc:FE}{p:FQ}{pos pos':Pos}{st:Stmt}{sts sts':List Stmt}{s1 s2:FS}
theorem bZ.gle{G G1:GH}{D:Ends}{o:Out}(h:bZ X g ro m' mb G D o)(w:aI G G1):bZ X g ro m' mb G1 D o:=by cases o with
|nx r'=>exact fun σ' G' H' q si=>h σ' G' H' (w.trans q) si
|rt d=>exact h
|bk r'=>exact fun σ' G' H' q si=>h σ' G' H' (w.trans q) si
|ct r'=>exact fun σ' G' H' q si=>h σ' G' H' (w.trans q) si
|exc x r'=>exact fun pz e s' σ' G' H' q=>h pz e s' σ' G' H' (w.trans q)
|stuck=>exact h
def aa(s1 s2:FS):FS:=fun r=>match s1 r with
|.nx r'=>s2 r'
|o=>o
def ay:FS:=fun r=>.nx r
theorem aA:fH X g ro mb m [] ay m:=⟨rfl,dU.imp Fs fun D σ H ⟨r,G,si,q⟩=>q σ G H (aI.refl G) si⟩
theorem am(h1:SS X g ro mb m st s1 m1)(h2:fH X g ro mb m1 sts s2 m'):fH X g ro mb m (st::sts) (aa s1 s2) m':=by refine⟨h2.1.trans h1.1,dU.imp (G9 h1.2 h2.2) fun D σ H ⟨r,G,si,q⟩=>⟨r,G,si,?_⟩⟩;unfold aa at q;cases e:s1 r with
|nx r'=>rw[e]at q;exact fun σ' G' H' w si'=>⟨r',G',si',bZ.gle q w⟩
|rt d=>rw[e]at q;exact q
|bk r'=>rw[e]at q;exact q
|ct r'=>rw[e]at q;exact q
|exc x r'=>rw[e]at q;exact fun pz e s' σ' G' H' w si'=>q pz e s' σ' G' H' w (by rw[pd h2.1];exact si')
|stuck=>rw[e]at q;exact q
theorem FG:SS X g ro mb m st (fun _=>.stuck) m:=⟨rfl,PS.imp GZ fun D σ H ⟨r,G,si,q⟩=>q⟩
theorem wI(i:Nat)(hi:m[i]? = some .ow)(h:SS X g ro mb (m.set i .sh) st s1 m'):SS X g ro mb m st s1 m':=by
 refine⟨h.1.trans (by simp),fun pz s σ H D I ⟨r,G,si,q⟩=>?_⟩;rcases si.frz i hi with⟨G',le,si'⟩|⟨a,z⟩
 .exact h.2 pz s σ H D I ⟨r,G',si',bZ.gle q le⟩
 .obtain⟨ob,I2⟩:=Inv.fast I a;obtain⟨G',le,si'⟩:=z ob;exact h.2 pz s σ _ D I2 ⟨r,G',si',bZ.gle q le⟩
def fA{α:Type}(m:List Md)(r:al)(x:Res α)(k:α->Out):Out:=match x with
|.ok a=>k a
|.exc e=>.exc e (forget m r)
|.stuck=>.stuck
@[simp] theorem onE_ok{α:Type}(m:List Md)(r:al)(a:α)(k:α->Out):fA m r (.ok a) k=k a:=rfl
theorem fV{α:Type}{x:Res α}{k:α->Out}{r:al}{G:GH}{D:Ends}{σ:L2.St}{H:Hp}(si:SI X g m r G σ H)(hl:m'.length=m.length)(h:bZ X g ro m' mb G D (fA m r x k)):fin x (fun a=>bZ X g ro m' mb G D (k a)) (XW X σ G H):=by cases x with
|ok a=>exact h
|exc e=>exact bZ.x h si hl
|stuck=>exact h
def ao(m:List Md)(i:Nat)(f:FE):FS:=fun r=>fA m r (f r) fun d=>.nx (r.set i (some d))
theorem BK(i:Nat){x:Str}(hN:X.N.Nodup)(hi:X.N[i]? = some x)(hx:im X.env.scope x)(he:SE X g m e f)(hs:Ox e (some (.Name x pos')) pos.line X.env=pure false:=by rfl)(hf:X.fn x=true\/X.env.scope.names.lookup x=some .local:=by first|exact .inl rfl|exact .inr rfl|assumption):SS X g ro mb m (.Assign [.Name x pos'] e pos) (ao m i f) (m.set i .sh):=by
 have hl:(m.set i .sh).length=m.length:=by simp
 refine⟨hl,PS.imp (xr hN hi hx he hs hf) fun D σ H ⟨r,G,si,q⟩=>⟨r,G,si,?_⟩⟩;exact a9 (fV si hl q) fun d q v G' H' w rv=>q _ G' H' w.ge ((si.grow w).set i rv)
theorem eS(i:Nat){x:Str}(hN:X.N.Nodup)(hi:X.N[i]? = some x)(hx:im X.env.scope x)(he:SO X g m e f)(hs:Ox e (some (.Name x pos')) pos.line X.env=pure false:=by rfl)(hf:X.fn x=true\/X.env.scope.names.lookup x=some .local:=by first|exact .inl rfl|exact .inr rfl|assumption):SS X g ro mb m (.Assign [.Name x pos'] e pos) (ao m i f) (m.set i .ow):=by
 have hl:(m.set i .ow).length=m.length:=by simp
 refine⟨hl,PS.imp (xr hN hi hx he hs hf) fun D σ H ⟨r,G,si,q⟩=>⟨r,G,si,?_⟩⟩;exact a9 (fV si hl q) fun d q a G' H' w hn ho=>q _ G' H' w.ge (si.setN w i hn ho)
def ax(m:List Md)(f:FE):FS:=fun r=>fA m r (f r) fun d=>.rt d
theorem bG(he:SE X g m e f):SS X g false mb m (.Return (some e) pos) (ax m f) m:=⟨rfl,PS.imp (xq he) fun D σ H ⟨r,G,si,q⟩=>⟨r,G,si,a9 (fV si rfl q) fun d q v G' H' w rv=>q v G' H' (si.grow w).grown rv⟩⟩
theorem Dz(i:Nat){x:Str}(hm:m[i]? = some .ow)(hN:X.N[i]? = some x)(hv:gw X.env.scope x)(hd:(x==("__debug__" : Str))=false:=by decide)(hcd:(x==("__classdict__" : Str))=false:=by decide):SS X g true mb m (.Return (some (.Name x pos')) pos) (ax m fun r=>cY r i) m:=by refine⟨rfl,PS.imp (xq (j7 hN hv hd hcd)) fun D σ H ⟨r,G,si,q⟩=>?_⟩;obtain⟨d,e,q⟩:=oX (fV si rfl q);obtain⟨a,h1,h2,h3⟩:=si.ow i d e hm;exact⟨_,h1,q _ G H si.grown (.inl ⟨a,rfl,h3,h2⟩)⟩
def cM(m:List Md)(p:FQ)(s1 s2:FS):FS:=fun r=>fA m r (p r) fun c=>if c=true then s1 r else s2 r
theorem bR(hc:SQ X g m c p)(h1:fH X g ro mb m sts s1 m')(h2:fH X g ro mb m sts' s2 m'):SS X g ro mb m (.If c sts sts' pos) (cM m p s1 s2) m':=by refine⟨h1.1,PS.imp (Cp hc h1.2 h2.2) fun D σ H ⟨r,G,si,q⟩=>⟨r,G,si,a9 (fV si h1.1 q) fun c q G' H' w=>?_⟩⟩;cases c with
|true=>rw[if_pos rfl]at q ⊢;exact⟨r,G',si.grow w,bZ.gle q w.ge⟩
|false=>rw[if_neg i_]at q ⊢;exact⟨r,G',si.grow w,bZ.gle q w.ge⟩
theorem lK(i:Nat)(h:fH X g ro mb m sts s1 m')(hi:m'[i]? = some .ow):fH X g ro mb m sts s1 (m'.set i .sh):=by
 refine⟨by simp[h.1],fun pz s σ H D I ⟨r,G,si,q⟩=>?_⟩;refine aH (h.2 pz s σ H ⟨fun σ' H'=>D.nx σ' H'\/∃a,∀ob,D.nx σ' (fz H' a ob),D.rt,D.bk,D.ct⟩ I ⟨r,G,si,?_⟩) fun f s' p=>?_
 .cases e:s1 r with
 |nx r'=>
   rw[e]at q;intro σ' G' H' w si';rcases si'.frz i hi with⟨G2,le,si2⟩|⟨a,z⟩
   .exact .inl (q σ' G2 H' (w.trans le) si2)
   .refine .inr ⟨a,fun ob=>?_⟩;obtain⟨G2,le,si2⟩:=z ob;exact q σ' G2 _ (w.trans le) si2
 |rt d=>rw[e]at q;exact q
 |bk r'=>rw[e]at q;exact q
 |ct r'=>rw[e]at q;exact q
 |exc x r'=>rw[e]at q;exact fun pz e s' σ' G' H' w si'=>q pz e s' σ' G' H' w (by rw[pd (m:=m') (by simp)];exact si')
 |stuck=>rw[e]at q;exact q
 .cases f with
 |next=>
   obtain⟨σ',H',I',z|⟨a,z⟩⟩:=p
   .exact⟨σ',H',I',z⟩
   .obtain⟨ob,I2⟩:=Inv.fast I' a;exact⟨σ',_,I2,z ob⟩
 |brk=>exact p
 |cont=>exact p
 |ret u=>exact p
end
abbrev FT:=D->al->Option al
abbrev iK:=List D->al->Option al
def tG(X:Cx)(g:GE)(m m':List Md)(ft:FT):TG:=fun v σ H Q=>∃r G d,SI X g m r G σ H/\RG X.K G v d/\∃r',ft d r=some r'/\∀σ',SI X g m' r' G σ' H->Q σ' H
def Kg(X:Cx)(g:GE)(m m':List Md)(ft:iK):iI:=fun vs σ H Q=>∃r G ds,SI X g m r G σ H/\ba X.K G vs ds/\∃r',ft ds r=some r'/\∀σ',SI X g m' r' G σ' H->Q σ' H
theorem PG.imp{X:Cx}{e:Expr}{t t':TG}(h:PG X e t)(i:∀v σ H Q,t' v σ H Q->t v σ H Q):PG X e t':=fun pz s σ H v u Q I r q=>h pz s σ H v u Q I r (i v σ H Q q)
theorem il.imp{X:Cx}{e:List Expr}{t t':iI}(h:il X e t)(i:∀v σ H Q,t' v σ H Q->t v σ H Q):il X e t':=fun pz s σ H v u Q I r q=>h pz s σ H v u Q I r (i v σ H Q q)
def SG(X:Cx)(g:GE)(m:List Md)(tg:Expr)(ft:FT)(m':List Md):Prop:=m'.length=m.length/\PG X tg (tG X g m m' ft)
structure SGs(X:Cx)(g:GE)(m:List Md)(ts:List Expr)(n:Nat)(ft:iK)(m':List Md):Prop where
 ml:m'.length=m.length
 ln:∀ds r r',ft ds r=some r'->ds.length=n
 pg:il X ts (Kg X g m m' ft)
def aE(i:Nat):FT:=fun d r=>some (r.set i (some d))
def gP(ft:iK):FT:=fun d r=>match d with
|.tup ds=>ft ds r
|.lst ds=>ft ds r
|_=>none
def gH:iK:=fun ds r=>match ds with
|[]=>some r
|_=>none
def cS(ft:FT)(fts:iK):iK:=fun ds r=>match ds with
|[]=>none
|d::ds=>(ft d r).bind fun r'=>fts ds r'
section
variable{X:Cx}{g:GE}{m m' m1:List Md}{tg:Expr}{ts:List Expr}{ft:FT}{fts:iK}{pos:Pos}{n:Nat}
theorem De(i:Nat){x:Str}(hN:X.N.Nodup)(hi:X.N[i]? = some x)(hx:im X.env.scope x)(hf:X.fn x=true\/X.env.scope.names.lookup x=some .local:=by first|exact .inl rfl|exact .inr rfl|assumption):SG X g m (.Name x pos) (aE i) (m.set i .sh):=⟨by simp,PG.imp (FU hN hi hx hf) fun v σ H Q ⟨r,G,d,si,rv,r',e,k⟩=>by cases e;exact k _ (si.set i rv)⟩
theorem jT:SGs X g m [] 0 gH m:=by
 refine⟨rfl,fun ds r r' e=>?_,il.imp FV fun v σ H Q ⟨r,G,ds,si,rv,r',e,k⟩=>?_⟩
 .cases ds with
 |nil=>rfl
 |cons _ _=>cases e
 .cases rv with
 |nil=>cases e;exact⟨rfl,k σ si⟩
 |cons _ _=>cases e
theorem eh(h1:SG X g m tg ft m1)(h2:SGs X g m1 ts n fts m')(hs:(LB (tg::ts) X.env).map (·.2)=NC tg X.env::(LB ts X.env).map (·.2):=by rfl):SGs X g m (tg::ts) (n+1) (cS ft fts) m':=by
 refine⟨h2.ml.trans h1.1,fun ds r r' e=>?_,il.imp (GX h1.2 h2.pg hs) fun v σ H Q ⟨r,G,ds,si,rv,r',e,k⟩=>?_⟩
 .cases ds with
 |nil=>cases e
 |cons d ds=>have e':((ft d r).bind fun r'=>fts ds r')=some r':=e;cases q:ft d r with
  |none=>rw[q]at e';cases e'
  |some r1=>rw[q]at e';have:=h2.ln ds r1 r' e';simp[this]
 .cases rv with
 |nil=>cases e
 |@cons v0 d vs ds rv rs=>have e':((ft d r).bind fun r'=>fts ds r')=some r':=e;cases q:ft d r with
  |none=>rw[q]at e';cases e'
  |some r1=>rw[q]at e';exact⟨_,_,rfl,r,G,d,si,rv,r1,q,fun σ' si'=>⟨r1,G,ds,si',rs,r',e',k⟩⟩
theorem DY{k:Nat}{t:iI}(hc:X.calm=true)(h:il X ts t)(hn:(LB ts X.env).length=n)(hst:(LB ts X.env).findIdx? (·.1)=none):PG X (.Tuple ts k pos) (fun v σ H Q=>∃a xs,v=.ref a/\aO X.K H a xs/\xs.length=n/\t xs σ H Q):=by intro pz s σ H v u Q I r hw;obtain⟨a,xs,e1,hq,hl,hw⟩:=hw;subst e1;cases r;obtain⟨its,rv,⟨o,nn,l1,l2,l3,l4⟩,hz⟩:=I.list hq;rw[Q6];refine b_ (Oj ?_);unfold unpack;rw[hst,show(LB ts X.env).length=its.toArray.size by simp[hn,<-hl,rv.length]];refine b_ (Ll (W.kun_itemsOf (I.ok.hd hc) ⟨o,l1,l2,nn,l4⟩ fun h' hx=>?_));have I1:Inv X pz σ H { s with heap:=h' }:=I.kept (t':=s.toks) fun b o e=>hx b o (D_ (o_ e)) e;exact h pz _ σ H xs _ Q I1 (by simpa using rv) hw
theorem PG.or{e:Expr}{t t':TG}(h:PG X e t)(h':PG X e t'):PG X e (fun v σ H Q=>t v σ H Q\/t' v σ H Q):=fun pz s σ H v u Q I r q=>q.elim (h pz s σ H v u Q I r) (h' pz s σ H v u Q I r)
theorem jU{k:Nat}(hc:X.calm=true)(h:SGs X g m ts n fts m')(hn:(LB ts X.env).length=n:=by rfl)(hst:(LB ts X.env).findIdx? (·.1)=none:=by rfl):SG X g m (.Tuple ts k pos) (gP fts) m':=by refine⟨h.ml,PG.imp (PG.or (DX hc h.pg hn hst) (DY hc h.pg hn hst)) fun v σ H Q ⟨r,G,d,si,rv,r',e,k⟩=>?_⟩;cases d with
|tup ds=>obtain⟨a,xs,rfl,s,rs⟩:=rv.tup si.gok;exact .inl ⟨a,xs,rfl,s,(Paired.length rs).trans (h.ln ds r r' e),r,G,ds,si,rs,r',e,k⟩
|lst ds=>obtain⟨a,xs,rfl,s,rs⟩:=rv.lst si.gok;exact .inr ⟨a,xs,rfl,s,(Paired.length rs).trans (h.ln ds r r' e),r,G,ds,si,rs,r',e,k⟩
|_=>cases e
end
structure Yields(K:W.Frag)(J:It)(ds:List D)(G0:GH):Prop where
 go:∀G H (i:Nat),aI G0 G->aC K G H->i<ds.length->J.go i H
 yld:∀G H (i:Nat) x H' d,aI G0 G->aC K G H->J.yld i H x H'->ds[i]? = some d->∃G',Grow K G H G' H'/\RG K G' x d
 stop:∀G H,aI G0 G->aC K G H->J.stop ds.length H
abbrev FI:=al->Res (List D)
def tI(X:Cx)(g:GE)(m:List Md)(f:FI):TI:=fun σ H R=>∃r G,SI X g m r G σ H/\fin (f r) (fun ds=>∀J G' H',Grow X.K G H G' H'->Yields X.K J ds G'->R J H') (XW X σ G H)
def iJ(X:Cx)(g:GE)(m:List Md)(tg iter:Expr)(f:FI):Prop:=PI X tg iter (tI X g m f)
theorem PI.imp{X:Cx}{tg e:Expr}{t t':TI}(h:PI X tg e t)(i:∀σ H Q,t' σ H Q->t σ H Q):PI X tg e t':=fun pz s σ H R I q=>h pz s σ H R I (i σ H R q)
theorem rH{K:W.Frag}{a:Addr}{ds:List D}{G0:GH}(h0:RG K G0 (.ref a) (.lst ds)):Yields K (nS K a) ds G0:=by
 have at_:∀G H,aI G0 G->aC K G H->∃xs,aO K H a xs/\ba K G xs ds:=fun G H w gk=>by obtain⟨b,xs,e,s,r⟩:=(h0.mono w).lst gk;cases e;exact⟨xs,s,r⟩
 refine⟨fun G H i w gk hi=>?_,fun G H i x H' d w gk y e=>?_,fun G H w gk=>?_⟩
 .obtain⟨xs,s,r⟩:=at_ G H w gk;have hl:=Paired.length r;exact⟨xs,xs[i],s,d_ (by omega)⟩
 .obtain⟨xs,s,r⟩:=at_ G H w gk;obtain⟨rfl,y⟩:=y;obtain⟨v,e1,rv⟩:=Paired.get r e;have:=y xs s;rw[e1]at this;cases this;exact⟨G,Grow.refl gk,rv⟩
 .obtain⟨xs,s,r⟩:=at_ G H w gk;exact⟨xs,s,Nf (Paired.length r)⟩
theorem ra{K:W.Frag}{a:Addr}{ds:List D}{G0:GH}(h0:RG K G0 (.ref a) (.tup ds)):Yields K (wd K a) ds G0:=by
 have at_:∀G H,aI G0 G->aC K G H->∃xs,bF K H a xs/\ba K G xs ds:=fun G H w gk=>by obtain⟨b,xs,e,s,r⟩:=(h0.mono w).tup gk;cases e;exact⟨xs,s,r⟩
 refine⟨fun G H i w gk hi=>?_,fun G H i x H' d w gk y e=>?_,fun G H w gk=>?_⟩
 .obtain⟨xs,s,r⟩:=at_ G H w gk;have hl:=Paired.length r;exact⟨xs,xs[i],s,d_ (by omega)⟩
 .obtain⟨xs,s,r⟩:=at_ G H w gk;obtain⟨rfl,y⟩:=y;obtain⟨v,e1,rv⟩:=Paired.get r e;have:=y xs s;rw[e1]at this;cases this;exact⟨G,Grow.refl gk,rv⟩
 .obtain⟨xs,s,r⟩:=at_ G H w gk;exact⟨xs,s,Nf (Paired.length r)⟩
def cT(lo:Int)(n:Nat):List D:=(h_ n).map fun(i:Nat)=>D.int (lo+(i:Int))
theorem E6{K:W.Frag}{lo:Int}{n:Nat}{G0:GH}:Yields K (qt lo n) (cT lo n) G0:=by
 have hl:(cT lo n).length=n:=by simp[cT]
 refine⟨fun G H i w gk hi=>(by rw[hl]at hi;exact hi),fun G H i x H' d w gk y e=>?_,fun G H w gk=>(by rw[hl];exact q_ _)⟩;obtain⟨rfl,rfl⟩:=y;have hi:i<n:=by have:=(c_.mp e).1;rw[hl]at this;exact this
 unfold cT at e;rw[x_,Ld hi]at e;cases e;exact⟨G,Grow.refl gk,.scl (.int _)⟩
def bv:D->Option (List D)
|.lst ds=>some ds
|.tup ds=>some ds
|_=>none
section
variable{X:Cx}{g:GE}{m m' m1 mb:List Md}{tg e a b c iter:Expr}{f fa fb:FE}{p:FQ}{pos pos':Pos}{ro:Bool}{fl:al->Res (List D)}{sts:List Stmt}{s1:FS}
def aF(k:D->Option (List D))(f:FE):FI:=fun r=>(f r).bind fun d=>bH (k d)
theorem rm{l:Expr}{tl:TE}(hl:PE X l tl):PI X tg l (fun σ H R=>tl σ H fun x H1=>(∃a,x=.ref a/\(∃xs,aO X.K H1 a xs)/\R (nS X.K a) H1)\/∃a,x=.ref a/\(∃xs,bF X.K H1 a xs)/\R (wd X.K a) H1):=by
 intro pz s σ H R I h;refine aH (hl pz s σ H _ I h) fun v s1 ⟨x,H1,I1,r1,q1⟩=>?_;rcases q1 with⟨a,e,⟨xs,hq⟩,q⟩|⟨a,e,⟨xs,hq⟩,q⟩
 .subst e;cases r1;obtain⟨its,rv,p,hz⟩:=I1.list hq;refine ML p.isList ?_;refine⟨s1.heap.objs.size,[s1.heap.objs.size],_,_,H1,rfl,I1.kept (t':=s1.toks) fun b o e=>e_ _ e,HY a _,⟨_,y_ _ rfl,rfl,rfl⟩,fun b hb=>?_,q⟩;have e:b=s1.heap.objs.size:=by simpa using hb
  subst e;exact I1.fpOk (q_ _) (I1.hok.fresh (q_ _))
 .subst e;cases r1;obtain⟨its,rv,p,hz⟩:=I1.tuple hq;refine Ls (show s1.heap.IsTuple a its.toArray from p) ?_;refine⟨s1.heap.objs.size,[s1.heap.objs.size],_,_,H1,rfl,I1.kept (t':=s1.toks) fun b o e=>e_ _ e,IP a _,⟨_,y_ _ rfl,rfl,rfl⟩,fun b hb=>?_,q⟩;have e:b=s1.heap.objs.size:=by simpa using hb
  subst e;exact I1.fpOk (q_ _) (I1.hok.fresh (q_ _))
theorem mn(h:SE X g m e f):iJ X g m tg e (aF bv f):=by
 refine PI.imp (rm h) fun σ H R ⟨r,G,si,q⟩=>⟨r,G,si,a9 (aU q) fun d q v G' H' w rv=>?_⟩
 obtain⟨ds,e,q⟩:=cv q;cases d with
|lst ds'=>cases e;obtain⟨a,xs,rfl,s,rs⟩:=rv.lst w.ok;exact .inl ⟨a,rfl,⟨xs,s⟩,q _ G' H' w (rH rv)⟩
|tup ds'=>cases e;obtain⟨a,xs,rfl,s,rs⟩:=rv.tup w.ok;exact .inr ⟨a,rfl,⟨xs,s⟩,q _ G' H' w (ra rv)⟩
|_=>cases e
structure YieldsC(K:W.Frag)(J:It)(ds:List D)(G0:GH)(H0:Hp):Prop where
 go:∀G H (i:Nat),Grow K G0 H0 G H->i<ds.length->J.go i H
 yld:∀G H (i:Nat) x H' d,Grow K G0 H0 G H->J.yld i H x H'->ds[i]? = some d->∃G',Grow K G H G' H'/\RG K G' x d
 stop:∀G H,Grow K G0 H0 G H->J.stop ds.length H
theorem Yields.toC{K:W.Frag}{J:It}{ds:List D}{G0:GH}{H0:Hp}(y:Yields K J ds G0):YieldsC K J ds G0 H0:=⟨fun G H i w hi=>y.go G H i w.ge w.ok hi,fun G H i x H' d w q e=>y.yld G H i x H' d w.ge w.ok q e,fun G H w=>y.stop G H w.ge w.ok⟩
def Ke(X:Cx)(g:GE)(m:List Md)(f:FI):TI:=fun σ H R=>∃r G,SI X g m r G σ H/\fin (f r) (fun ds=>∀J G' H',Grow X.K G H G' H'->YieldsC X.K J ds G' H'->R J H') (XW X σ G H)
def ik(X:Cx)(g:GE)(m:List Md)(tg iter:Expr)(f:FI):Prop:=PI X tg iter (Ke X g m f)
theorem iJ.toC{fi:FI}(h:iJ X g m tg iter fi):ik X g m tg iter fi:=PI.imp h fun σ H R ⟨r,G,si,q⟩=>⟨r,G,si,a9 q fun ds k J G' H' w y=>k J G' H' w y.toC⟩
theorem E5{K:W.Frag}{a:Addr}{ds:List D}{G0:GH}{H0:Hp}(o:Own K G0 H0 a (.lst ds)):YieldsC K (nS K a) ds G0 H0:=by
 have at_:∀G H,Grow K G0 H0 G H->∃xs,aO K H a xs/\ba K G xs ds:=fun G H w=>by cases(o.mono w).ob with
 |lst r s=>exact⟨_,aO.of r,s⟩
 refine⟨fun G H i w hi=>?_,fun G H i x H' d w y e=>?_,fun G H w=>?_⟩
 .obtain⟨xs,s,r⟩:=at_ G H w;have hl:=Paired.length r;exact⟨xs,xs[i],s,d_ (by omega)⟩
 .obtain⟨xs,s,r⟩:=at_ G H w;obtain⟨rfl,y⟩:=y;obtain⟨v,e1,rv⟩:=Paired.get r e;have:=y xs s;rw[e1]at this;cases this;exact⟨G,Grow.refl w.ok,rv⟩
 .obtain⟨xs,s,r⟩:=at_ G H w;exact⟨xs,s,Nf (Paired.length r)⟩
theorem dG(h:SB X g m e f):ik X g m tg e (aF bv f):=by
 refine PI.imp (rm h) fun σ H R ⟨r,G,si,q⟩=>⟨r,G,si,a9 (aU q) fun d q v G' H' w rv=>?_⟩
 obtain⟨ds,e,q⟩:=cv q;cases d with
|lst ds'=>
  cases e;rcases rv with rv|⟨a,rfl,o⟩
  .obtain⟨a,xs,rfl,s,rs⟩:=rv.lst w.ok;exact .inl ⟨a,rfl,⟨xs,s⟩,q _ G' H' w (rH rv).toC⟩
  .cases o.ob with
  |lst r s=>exact .inl ⟨a,rfl,⟨_,aO.of r⟩,q _ G' H' w (E5 o)⟩
|tup ds'=>
  cases e;rcases rv with rv|⟨a,rfl,o⟩
  .obtain⟨a,xs,rfl,s,rs⟩:=rv.tup w.ok;exact .inr ⟨a,rfl,⟨xs,s⟩,q _ G' H' w (ra rv).toC⟩
  .cases o.ob
|_=>cases e
def da:List D->Option (List D)
|[.int j]=>if-(2^62)<=j/\j<2^62 then some (cT 0 j.toNat)else none
|_=>none
def dy(k:List D->Option (List D))(fl:al->Res (List D)):FI:=fun r=>(fl r).bind fun ds=>bH (k ds)
theorem lF{pn:Pos}(hg:Gl X "range")(hm:X.mg "range" = none)(ha:gS X g m [a] fl)(hs:m_ [a] X.env=[(false,eval a X.env)]:=by rfl):iJ X g m tg (.Call (.Name "range" pn) [a] [] pos) (dy da fl):=by
 refine PI.imp (ID hg hm ha hs) fun σ H R ⟨r,G,si,q⟩=>⟨r,G,si,a9 (aU q) fun ds q vs G' H' w rs=>?_⟩
 obtain⟨zs,e,q⟩:=cv q;unfold da at e;split at e
 .split at e
  .rename_i j hj;cases e;cases rs with
  |cons r1 t=>cases t;exact⟨j,by rw[r1.int w.ok],hj.1,hj.2,q _ G' H' w E6⟩
  .cases e
 .cases e
def aB(ft:FT)(body:FS):List D->FS
|[],r=>.nx r
|d::ds,r=>match ft d r with
 |none=>.stuck
 |some r1=>match body r1 with
  |.nx r'=>aB ft body ds r'
  |.ct r'=>aB ft body ds r'
  |.bk r'=>.nx r'
  |o=>o
def c7(m:List Md)(fi:FI)(ft:FT)(body:FS):FS:=fun r=>fA m r (fi r) fun ds=>aB ft body ds r
theorem iq(hp:Oy (H_ X.prog X.w) X.A X.env X.xe)(hc:X.calm=true){ft:FT}{fi:FI}(hi:iJ X g m tg iter fi)(hg:SG X g m tg ft m)(hb:fH X g ro m m sts s1 m)(hs:∀x,Mi iter X.env x=pure x:=by intro _;rfl):SS X g ro mb m (.For tg iter sts [] pos) (c7 m fi ft s1) m:=by
 refine⟨rfl,PS.imp (rc hp hc hi hg.2 hb.2 hs) fun D σ H ⟨r,G,si,q⟩=>⟨r,G,si,a9 (fV si rfl q) fun ds q J G0 H0 w0 Y=>?_⟩⟩;refine⟨fun i n σ H=>∃r G,SI X g m r G σ H/\aI G0 G/\i<=ds.length/\n=ds.length-i/\bZ X g ro m mb G D (aB ft s1 (ds.drop i) r),⟨ds.length,r,G0,si.grow w0,aI.refl G0,KN _,rfl,bZ.gle q w0.ge⟩,?_⟩
 rintro i n σ1 H1 ⟨r1,G1,si1,le1,hi,rfl,q1⟩
 by_cases hlt:i<ds.length
 .have hd:ds.drop i=ds[i]::ds.drop (i+1):=Mb hlt;rw[hd]at q1;unfold aB at q1;refine .inr ⟨Y.go G1 H1 i le1 si1.gok hlt,fun σ' H'=>∃r G,SI X g m r G σ' H'/\aI G0 G/\bZ X g ro m mb G D (aB ft s1 (ds.drop (i+1)) r),fun σ' H' ⟨r',G',si',le',q'⟩=>⟨ds.length-(i+1),by omega,r',G',si',le',hlt,rfl,q'⟩,fun x H' y=>?_⟩;obtain⟨G',w',rv⟩:=Y.yld G1 H1 i x H' ds[i] le1 si1.gok y (d_ hlt);have le':aI G0 G':=le1.trans w'.ge;cases eft:ft ds[i] r1 with
 |none=>simp only[eft]at q1;exact q1.elim
 |some r2=>simp only[eft]at q1;refine⟨r1,G',ds[i],si1.grow w',rv,r2,eft,fun σ2 si2=>⟨r2,G',si2,?_⟩⟩;cases eb:s1 r2 with
  |nx r'=>simp only[eb]at q1;exact fun σ3 G3 H3 le3 si3=>⟨r',G3,si3,le'.trans le3,bZ.gle q1 (aI.trans w'.ge le3)⟩
  |ct r'=>simp only[eb]at q1;exact fun σ3 G3 H3 le3 si3=>⟨r',G3,si3,le'.trans le3,bZ.gle q1 (aI.trans w'.ge le3)⟩
  |bk r'=>simp only[eb]at q1;exact fun σ3 G3 H3 le3 si3=>q1 σ3 G3 H3 (aI.trans w'.ge le3) si3
  |rt d=>simp only[eb]at q1;exact q1
  |exc x r'=>simp only[eb]at q1;exact fun pz e s' σ3 G3 H3 le3=>q1 pz e s' σ3 G3 H3 (aI.trans w'.ge le3)
  |stuck=>simp only[eb]at q1;exact q1
 .have e:i=ds.length:=by omega
  subst e;rw[Nq]at q1;exact .inl ⟨Y.stop G1 H1 le1 si1.gok,q1 σ1 G1 H1 (aI.refl _) si1⟩
def cx(m:List Md):List Md:=m.map fun x=>if x=Md.sh then Md.sh else Md.bw
def jX(m:List Md)(r:al)(st:L2.St)(G:GH)(H:Hp):GE:=⟨G,H,fun i=>if m[i]? = some Md.ow\/m[i]? = some Md.bw then some ((st[i]?).join,(r[i]?).join)else none⟩
theorem mZ{m:List Md}{i:Nat}{x:Md}(h:m[i]? = some x):(cx m)[i]? = some (if x=Md.sh then Md.sh else Md.bw):=by unfold cx;rw[x_,h];rfl
theorem Hq{m:List Md}{i:Nat}(h:(cx m)[i]? = some Md.sh):m[i]? = some Md.sh:=by cases q:m[i]? with
|none=>unfold cx at h;rw[x_,q]at h;cases h
|some x=>rw[mZ q]at h;cases x <;> first|rfl|(simp at h)
theorem yW{m:List Md}{i:Nat}(h:(cx m)[i]? = some Md.ow):False:=by cases q:m[i]? with
|none=>unfold cx at h;rw[x_,q]at h;cases h
|some x=>rw[mZ q]at h;cases x <;> simp at h
theorem lockM_bw{m:List Md}{i:Nat}(h:(cx m)[i]? = some Md.bw):m[i]? = some Md.ow\/m[i]? = some Md.bw:=by cases q:m[i]? with
|none=>unfold cx at h;rw[x_,q]at h;cases h
|some x=>rw[mZ q]at h;cases x with
 |sh=>simp at h
 |ow=>exact .inl rfl
 |bw=>exact .inr rfl
theorem SI.lock{r:al}{G:GH}{st:L2.St}{H:Hp}(s:SI X g m r G st H):SI X (jX m r st G H) (cx m) r G st H where
 gok:=s.gok
 old:=fun _ _ e=>e
 ge:=fun _ _ e=>e
 gf:=fun _ _=>rfl
 lm:=by unfold cx;rw[l_];exact s.lm
 lr:=s.lr
 sh:=fun i d h hm=>s.sh i d h (Hq hm)
 ow:=fun i d h hm=>(yW hm).elim
 bw:=fun i d h hm=>by
  rcases lockM_bw hm with z|z
  .obtain⟨a,h1,h2,_⟩:=s.ow i d h z;exact⟨_,h1,.inr ⟨a,rfl,h2,h2.ob.isS⟩⟩
  .obtain⟨v,h1,h2⟩:=s.bw i d h z;refine⟨v,h1,?_⟩;rcases h2 with h2|⟨a,e,h2,_⟩
   .exact .inl h2
   .exact .inr ⟨a,e,h2,h2.ob.isS⟩
 dis:=fun i j a d e _ _ _ hm=>(yW hm).elim
 lk:=fun i o h hm=>by
  have h':(if m[i]? = some Md.ow\/m[i]? = some Md.bw then some ((st[i]?).join,(r[i]?).join)else none)=some o:=h;rw[if_pos (lockM_bw hm)]at h';cases h';have hi:i<st.length:=by have:=(c_.mp hm).1;unfold cx at this;rw[l_,s.lm]at this;exact this
  refine⟨?_,fun d hd=>by rw[hd];rfl⟩;rw[d_ hi];rfl
theorem SI.unlock{r r':al}{G G':GH}{st st':L2.St}{H H':Hp}(s:SI X g m r G st H)(s':SI X (jX m r st G H) (cx m) r' G' st' H'):SI X g m r' G' st' H':=by
 have w:Grow X.K G H G' H':=s'.grown;have hlk:∀(i:Nat),(m[i]? = some Md.ow\/m[i]? = some Md.bw)->st'[i]? = some (st[i]?).join/\∀d,r'[i]? = some (some d)->r[i]? = some (some d):=fun i hi=>by
  have hm:(cx m)[i]? = some Md.bw:=by rcases hi with z|z <;> rw[mZ z] <;> simp
  obtain⟨h1,h2⟩:=s'.lk i ((st[i]?).join,(r[i]?).join) (if_pos hi) hm;refine⟨h1,fun d hd=>?_⟩;have:=h2 d hd;cases q:r[i]? with
 |none=>rw[q]at this;cases this
 |some o=>rw[q]at this;rw[show o=some d from this]
 have hst:∀(i:Nat) v,(m[i]? = some Md.ow\/m[i]? = some Md.bw)->st[i]? = some (some v)->st'[i]? = some (some v):=fun i v hi h=>by rw[(hlk i hi).1,h];rfl
 refine⟨s'.gok,fun a o e=>s'.old a o (s.old a o e),fun a d e=>s'.ge a d (s.ge a d e),fun a h=>?_,?_,s'.lr,fun i d h hm=>?_,fun i d h hm=>?_,fun i d h hm=>?_,fun i j a d e hij h1 h2 m1 m2 q1 q2=>?_,fun i o hi hm=>?_⟩
 .have h1:H a≠none:=by cases e:g.h0 a with
  |none=>exact absurd e h
  |some o=>rw[s.old _ _ e];simp
  rw[w.gf a h1,s.gf a h]
 .have:=s'.lm;unfold cx at this;rw[l_]at this;exact this
 .exact s'.sh i d h (by rw[mZ hm];simp)
 .obtain⟨a,h1,h2,h3⟩:=s.ow i d ((hlk i (.inl hm)).2 d h) hm;exact⟨a,hst i _ (.inl hm) h1,h2.mono w,h3⟩
 .obtain⟨v,h1,h2⟩:=s.bw i d ((hlk i (.inr hm)).2 d h) hm;exact⟨v,hst i _ (.inr hm) h1,h2.grow w⟩
 .have e1:=(hlk i (.inl m1)).2 d h1;have e2:=(hlk j (.inl m2)).2 e h2;obtain⟨b,z1,_,_⟩:=s.ow i d e1 m1;obtain⟨c,z2,_,_⟩:=s.ow j e e2 m2;have y1:=hst i _ (.inl m1) z1;have y2:=hst j _ (.inl m2) z2;rw[q1]at y1;rw[q2]at y2;cases y1;cases y2;exact s.dis i j a d e hij e1 e2 m1 m2 z1 z2
 .obtain⟨h1,h2⟩:=s.lk i o hi hm;refine⟨?_,fun d hd=>h2 d ((hlk i (.inr hm)).2 d hd)⟩;rw[(hlk i (.inr hm)).1,h1];rfl
theorem SI.unlockX{r r':al}{G G':GH}{st st':L2.St}{H H':Hp}(s:SI X g m r G st H)(s':SI X (jX m r st G H) (eQ (cx m)) r' G' st' H'):SI X g (eQ m) r' G' st' H':=by
 have w:Grow X.K G H G' H':=s'.grown;have el:eQ (cx m)=eQ m:=pd (by unfold cx;rw[l_]);rw[el]at s';have no:∀{i:Nat}{x:Md},(eQ m)[i]? = some x->x=Md.sh:=fun{i x} h=>by unfold eQ at h;rw[x_]at h;cases q:m[i]? with
 |none=>rw[q]at h;cases h
 |some y=>rw[q]at h;cases h;rfl
 refine⟨s'.gok,fun a o e=>s'.old a o (s.old a o e),fun a d e=>s'.ge a d (s.ge a d e),fun a h=>?_,s'.lm,s'.lr,s'.sh,fun i d h hm=>(nomatch (no hm)),fun i d h hm=>(nomatch (no hm)),fun i j a d e hij h1 h2 m1 m2=>(nomatch (no m1)),fun i o hi hm=>(nomatch (no hm))⟩;have h1:H a≠none:=by cases e:g.h0 a with
 |none=>exact absurd e h
 |some o=>rw[s.old _ _ e];simp
 rw[w.gf a h1,s.gf a h]
theorem xC(hp:Oy (H_ X.prog X.w) X.A X.env X.xe)(hc:X.calm=true){ft:FT}{fi:FI}(hi:ik X g m tg iter fi)(hg:∀g',SG X g' (cx m) tg ft (cx m))(hb:∀g',fH X g' ro (cx m) (cx m) sts s1 (cx m))(hs:∀x,Mi iter X.env x=pure x:=by intro _;rfl):SS X g ro mb m (.For tg iter sts [] pos) (c7 m fi ft s1) m:=by
 have hgA:PG X tg (fun v σ H Q=>∃g',tG X g' (cx m) (cx m) ft v σ H Q):=fun pz s σ H v u Q I r ⟨g',q⟩=>(hg g').2 pz s σ H v u Q I r q;have hbA:dU X sts (fun D σ H=>∃g',tS X g' ro (cx m) (cx m) (cx m) s1 D σ H):=fun pz s σ H D I ⟨g',q⟩=>(hb g').2 pz s σ H D I q;refine⟨rfl,PS.imp (rc hp hc hi hgA hbA hs) fun D σ H ⟨r,G,si,q⟩=>⟨r,G,si,a9 (fV si rfl q) fun ds q J G0 H0 w0 Y=>?_⟩⟩;have si0:=si.grow w0;refine⟨fun i n σ1 H1=>∃r1 G1,SI X (jX m r σ G0 H0) (cx m) r1 G1 σ1 H1/\i<=ds.length/\n=ds.length-i/\bZ X g ro m mb G1 D (aB ft s1 (ds.drop i) r1),⟨ds.length,r,G0,si0.lock,KN _,rfl,bZ.gle q w0.ge⟩,?_⟩
 rintro i n σ1 H1 ⟨r1,G1,si1,hi,rfl,q1⟩
 have wg:Grow X.K G0 H0 G1 H1:=si1.grown;by_cases hlt:i<ds.length
 .have hd:ds.drop i=ds[i]::ds.drop (i+1):=Mb hlt;rw[hd]at q1;unfold aB at q1;refine .inr ⟨Y.go G1 H1 i wg hlt,fun σ' H'=>∃r' G',SI X (jX m r σ G0 H0) (cx m) r' G' σ' H'/\bZ X g ro m mb G' D (aB ft s1 (ds.drop (i+1)) r'),fun σ' H' ⟨r',G',si',q'⟩=>⟨ds.length-(i+1),by omega,r',G',si',hlt,rfl,q'⟩,fun x H' y=>?_⟩;obtain⟨G',w',rv⟩:=Y.yld G1 H1 i x H' ds[i] wg y (d_ hlt);cases eft:ft ds[i] r1 with
 |none=>simp only[eft]at q1;exact q1.elim
 |some r2=>simp only[eft]at q1;refine⟨jX m r σ G0 H0,r1,G',ds[i],si1.grow w',rv,r2,eft,fun σ2 si2=>⟨jX m r σ G0 H0,r2,G',si2,?_⟩⟩;cases eb:s1 r2 with
  |nx r'=>simp only[eb]at q1;exact fun σ3 G3 H3 le3 si3=>⟨r',G3,si3,bZ.gle q1 (aI.trans w'.ge le3)⟩
  |ct r'=>simp only[eb]at q1;exact fun σ3 G3 H3 le3 si3=>⟨r',G3,si3,bZ.gle q1 (aI.trans w'.ge le3)⟩
  |bk r'=>simp only[eb]at q1;exact fun σ3 G3 H3 le3 si3=>q1 σ3 G3 H3 (aI.trans w'.ge le3) (si0.unlock si3)
  |rt d=>simp only[eb]at q1;intro v G2 H2 wr rv2;refine q1 v G2 H2 (si0.grown.trans wr) ?_;cases ro with
   |false=>exact rv2
   |true=>
     rcases rv2 with⟨a,e1,e2,e3⟩|z
     .exact .inl ⟨a,e1,si0.grown.back e2,e3⟩
     .exact .inr z
  |exc x r'=>simp only[eb]at q1;exact fun pz e s' σ3 G3 H3 le3 si3=>q1 pz e s' σ3 G3 H3 (aI.trans w'.ge le3) (si0.unlockX si3)
  |stuck=>simp only[eb]at q1;exact q1
 .have e:i=ds.length:=by omega
  subst e;rw[Nq]at q1;exact .inl ⟨Y.stop G1 H1 wg,q1 σ1 G1 H1 (aI.refl _) (si0.unlock si1)⟩
def dH(m:List Md)(p:FQ)(body:FS):Nat->FS
|0,_=>.stuck
|n+1,r=>fA m r (p r) fun c=>if c=true then(match body r with
  |.nx r'=>dH m p body n r'
  |.ct r'=>dH m p body n r'
  |.bk r'=>.nx r'
  |o=>o)else .nx r
theorem oy(n:Nat)(hp:Oy (H_ X.prog X.w) X.A X.env X.xe)(hc:SQ X g m c p)(hb:fH X g ro m m sts s1 m):SS X g ro mb m (.While c sts [] pos) (dH m p s1 n) m:=by
 refine⟨rfl,PS.imp (G6 hp hc hb.2) fun D σ H ⟨r,G,si,q⟩=>?_⟩;refine⟨fun n σ H=>∃r G,SI X g m r G σ H/\bZ X g ro m mb G D (dH m p s1 n r),⟨n,r,G,si,q⟩,?_⟩
 rintro n σ1 H1 ⟨r1,G1,si1,q1⟩
 cases n with
|zero=>exact q1.elim
|succ n=>unfold dH at q1;refine⟨r1,G1,si1,a9 (fV si1 rfl q1) fun c q2 G2 H2 w2=>?_⟩;cases c with
 |false=>rw[if_neg i_]at q2 ⊢;exact q2 σ1 G2 H2 w2.ge (si1.grow w2)
 |true=>rw[if_pos rfl]at q2 ⊢;refine⟨fun σ' H'=>∃r G,SI X g m r G σ' H'/\bZ X g ro m mb G D (dH m p s1 n r),fun σ' H' h=>⟨n,Mt _,h⟩,r1,G2,si1.grow w2,?_⟩;cases eb:s1 r1 with
  |nx r'=>simp only[eb]at q2;exact fun σ3 G3 H3 le3 si3=>⟨r',G3,si3,bZ.gle q2 (aI.trans w2.ge le3)⟩
  |ct r'=>simp only[eb]at q2;exact fun σ3 G3 H3 le3 si3=>⟨r',G3,si3,bZ.gle q2 (aI.trans w2.ge le3)⟩
  |bk r'=>simp only[eb]at q2;exact fun σ3 G3 H3 le3 si3=>q2 σ3 G3 H3 (aI.trans w2.ge le3) si3
  |rt d=>simp only[eb]at q2;exact q2
  |exc x r'=>simp only[eb]at q2;exact fun pz e s' σ3 G3 H3 le3=>q2 pz e s' σ3 G3 H3 (aI.trans w2.ge le3)
  |stuck=>simp only[eb]at q2;exact q2
def gu(m:List Md)(f:FE)(ft:FT):FS:=fun r=>fA m r (f r) fun d=>match ft d r with
|some r'=>.nx r'
|none=>.stuck
theorem qK{ft:FT}(he:SE X g m e f)(hg:SG X g m tg ft m')(hs:Pt [tg] e pos.line X.env=pure false:=by rfl)(hw:Pu [tg] e X.env=pure none:=by rfl)(h1:(LB [tg] X.env).map (·.2)=[NC tg X.env]:=by rfl):SS X g ro mb m (.Assign [tg] e pos) (gu m f ft) m':=by refine⟨hg.1,PS.imp (xp he hg.2 hs hw h1) fun D σ H ⟨r,G,si,q⟩=>⟨r,G,si,a9 (fV si hg.1 q) fun d q v G' H' w rv=>?_⟩⟩;cases e1:ft d r with
|none=>simp only[e1]at q;exact q.elim
|some r'=>simp only[e1]at q;exact⟨r,G',d,si.grow w,rv,r',e1,fun σ' si'=>q σ' G' H' w.ge si'⟩
end
def l5:Res D->Res D
|.ok d=>.ok d
|_=>.stuck
@[simp] theorem noX_ok(d:D):l5 (.ok d)=.ok d:=rfl
inductive ArgsOk(K:W.Frag)(G:GH)(H:Hp):List Md->List V->List D->Prop where
 |nil:ArgsOk K G H [] [] []
 |sh {v:V} {d:D} {ms:List Md} {vs:List V} {ds:List D}:RG K G v d->ArgsOk K G H ms vs ds->ArgsOk K G H (.sh::ms) (v::vs) (d::ds)
 |bw {v:V} {d:D} {ms:List Md} {vs:List V} {ds:List D}:RB K G H v d->ArgsOk K G H ms vs ds->ArgsOk K G H (.bw::ms) (v::vs) (d::ds)
section
variable{K:W.Frag}{G G':GH}{H H':Hp}
theorem ArgsOk.mono:∀{ms:List Md}{vs:List V}{ds:List D},ArgsOk K G H ms vs ds->Grow K G H G' H'->ArgsOk K G' H' ms vs ds
|_,_,_,.nil,_=>.nil
|_,_,_,.sh h t,w=>.sh (h.mono w.ge) (t.mono w)
|_,_,_,.bw h t,w=>.bw (h.mono w) (t.mono w)
theorem ArgsOk.len{ms:List Md}{vs:List V}{ds:List D}(h:ArgsOk K G H ms vs ds):vs.length=ms.length/\ds.length=ms.length:=by induction h with
|nil=>exact⟨rfl,rfl⟩
|sh h t ih=>exact⟨congrArg (· + 1) ih.1,congrArg (· + 1) ih.2⟩
|bw h t ih=>exact⟨congrArg (· + 1) ih.1,congrArg (· + 1) ih.2⟩
theorem ArgsOk.app{dvs:List V}{dds:List D}(hs:Paired Scl dvs dds):∀{ms:List Md}{vs:List V}{ds:List D},ArgsOk K G H ms vs ds->ArgsOk K G H (ms++K2 dds.length .sh) (vs++dvs) (ds++dds)
|_,_,_,.nil=>by induction hs with
 |nil=>exact .nil
 |cons h t ih=>exact .sh (.scl h) ih
|_,_,_,.sh h t=>.sh h (t.app hs)
|_,_,_,.bw h t=>.bw h (t.app hs)
theorem ArgsOk.get:∀{ms:List Md}{vs:List V}{ds:List D}{i:Nat}{d:D},ArgsOk K G H ms vs ds->ds[i]? = some d->∃v,vs[i]? = some v/\((ms[i]? = some .sh/\RG K G v d)\/(ms[i]? = some .bw/\RB K G H v d))
|_,_,_,_,_,.nil,e=>by simp at e
|_,_,_,0,_,.sh h t,e=>by simp at e;subst e;exact⟨_,rfl,.inl ⟨rfl,h⟩⟩
|_,_,_,0,_,.bw h t,e=>by simp at e;subst e;exact⟨_,rfl,.inr ⟨rfl,h⟩⟩
|_,_,_,i+1,d,.sh h t,e=>by obtain⟨v,h1,h2⟩:=t.get (i:=i) (d:=d) (by simpa using e);exact⟨v,by simpa using h1,by simpa using h2⟩
|_,_,_,i+1,d,.bw h t,e=>by obtain⟨v,h1,h2⟩:=t.get (i:=i) (d:=d) (by simpa using e);exact⟨v,by simpa using h1,by simpa using h2⟩
end
def g9(K:W.Frag)(ro:Bool)(ms:List Md)(F:List D->Res D):Sp:=fun vs H Q _=>∃G ds,aC K G H/\ArgsOk K G H ms vs ds/\fin (F ds) (fun d=>∀v G' H',Grow K G H G' H'->RV ro K H G' H' v d->Q v H') fun _=>False
def aD(ro:Bool):Out->Res D
|.nx _=>if ro=true then .stuck else .ok .non
|.rt d=>.ok d
|.exc x _=>.exc x
|_=>.stuck
def bh(n:Nat)(ds:List D):al:=ds.map some++K2 (n-ds.length) none
def iV(n:Nat)(ms:List Md):List Md:=ms++K2 (n-ms.length) .sh
section
variable{P:E_}{w:Kz}{K:W.Frag}{mg:Str->Option a_}{base:Heap}
theorem zB{X:Cx}{N:List Str}{ms:List Md}{vs:List V}{ds:List D}{G:GH}{H:Hp}(gk:aC X.K G H)(rs:ArgsOk X.K G H ms vs ds)(hn:ms.length<=N.length):SI X ⟨G,H,fun _=>none⟩ (iV N.length ms) (bh N.length ds) G (L2.bA N vs) H:=by
 obtain⟨l1,l2⟩:=rs.len;have e1:(L2.bA N vs).length=N.length:=by unfold L2.bA;rw[I_,l_,L_];omega
 have e2:(bh N.length ds).length=N.length:=by unfold bh;rw[I_,l_,L_];omega
 have e3:(iV N.length ms).length=N.length:=by unfold iV;rw[I_,L_];omega
 have at_:∀(i:Nat) d,(bh N.length ds)[i]? = some (some d)->i<ms.length/\(iV N.length ms)[i]? = ms[i]?/\∃v,(L2.bA N vs)[i]? = some (some v)/\((ms[i]? = some .sh/\RG X.K G v d)\/(ms[i]? = some .bw/\RB X.K G H v d)):=fun i d h=>by
  unfold bh at h;by_cases hi:i<ds.length
  .rw[J_ (by simpa using hi),x_]at h;have hd:ds[i]? = some d:=by cases z:ds[i]? with
   |none=>rw[z]at h;cases h
   |some d'=>rw[z]at h;cases h;rfl
   obtain⟨v,hv,rv⟩:=rs.get hd;refine⟨by omega,?_,v,?_,rv⟩
   .unfold iV;rw[J_ (by omega)]
   .unfold L2.bA;rw[J_ (by rw[l_];omega),x_,hv];rfl
  .rw[Lg (by simpa using hi),Lw]at h;split at h <;> cases h
 refine⟨gk,fun _ _ e=>e,fun _ _ e=>e,fun _ _=>rfl,by rw[e3,e1],by rw[e1,e2],fun i d h hm=>?_,fun i d h hm=>?_,fun i d h hm=>?_,fun i j a d e _ h _ hm=>?_,fun i o h=>nomatch h⟩
 .obtain⟨_,hq,v,h1,h2⟩:=at_ i d h;rw[hq]at hm;rcases h2 with⟨_,h2⟩|⟨h3,h2⟩
  .exact⟨v,h1,h2⟩
  .rw[hm]at h3;cases h3
 .obtain⟨_,hq,v,h1,h2⟩:=at_ i d h;rw[hq]at hm;rcases h2 with⟨h3,h2⟩|⟨h3,h2⟩ <;> rw[hm]at h3 <;> cases h3
 .obtain⟨_,hq,v,h1,h2⟩:=at_ i d h;rw[hq]at hm;rcases h2 with⟨h3,h2⟩|⟨h3,h2⟩
  .rw[hm]at h3;cases h3
  .refine⟨v,h1,?_⟩;rcases h2 with h2|⟨a,rfl,h2⟩
   .exact .inl h2
   .exact .inr ⟨a,rfl,h2,h2.ob.isS⟩
 .obtain⟨_,hq,v,h1,h2⟩:=at_ i d h;rw[hq]at hm;rcases h2 with⟨h3,h2⟩|⟨h3,h2⟩ <;> rw[hm]at h3 <;> cases h3
theorem zg{X:Cx}{ro:Bool}{fs:FS}{m':List Md}{G:GH}{H:Hp}{r:al}{Q:VK}(q:fin (aD ro (fs r)) (fun d=>∀v G' H',Grow X.K G H G' H'->RV ro X.K H G' H' v d->Q v H') fun _=>False):bZ X ⟨G,H,fun _=>none⟩ ro m' [] G { nx:=fun _ H'=>Q .non H',rt:=Q } (fs r):=by cases e:fs r with
|nx r'=>rw[e]at q;cases ro with
 |false=>exact fun σ' G' H' _ si=>q .non G' H' si.grown (.scl .non)
 |true=>exact q.elim
|rt d=>rw[e]at q;exact fun v G' H' wg rv=>q v G' H' wg rv
|bk r'=>rw[e]at q;exact q.elim
|ct r'=>rw[e]at q;exact q.elim
|exc x r'=>rw[e]at q;exact q.elim
|stuck=>rw[e]at q;exact q
theorem xc{x qual:Str}{st:Stmt}{f:Addr}{fd:LK}{N ps:List Str}{k:Nat}{ro:Bool}{ms:List Md}{fs:FS}{m':List Md}(F:Fun K x qual st f fd)(S:FnScope N ps (aw st))(hms:ms.length=ps.length)(hbody:∀(cdv:a_)(A:KM)(outer:List Env)(s:f_)(H:Hp)(g:GE)(E:XK),Room k (A.deeper (Np qual (aw st) s.heap.objs.size f cdv)) ->fH (aS bQ P w K mg base N qual (aw st) f cdv A outer s H E).nox g ro [] (iV N.length ms) (en st) fs m'):FnOk P w K mg base bQ (k+1) f fd ps (g9 K ro ms fun ds=>aD ro (fs (bh N.length ds))):=by
 refine F.ok S (fun vs H Q E ⟨G,ds,gk,rs,q⟩=>rs.len.1.trans hms) fun cdv A outer s H vs Q E hr h=>?_;obtain⟨G,ds,gk,rs,q⟩:=h;have hpl:ps.length<=N.length:=by have:=congrArg Qp S.pre;rw[K5]at this;omega
 exact⟨_,(hbody cdv A outer s H ⟨G,H,fun _=>none⟩ E hr).2,bh N.length ds,G,zB gk rs (by omega),zg q⟩
end
section
variable{X:Cx}{g:GE}{m:List Md}{e:Expr}{f:FE}{es:List Expr}{fl:al->Res (List D)}{k:Nat}{fa:Addr}{fd:LK}{ps:List Str}{F:List D->Res D}{dvs:List V}{ds:List a_}{dds:List D}{x:Str}{p pos:Pos}{ms:List Md}
def Kc(X:Cx)(g:GE)(m:List Md)(ms:List Md)(f:al->Res (List D)):TA:=fun σ H Q=>∃r G,SI X g m r G σ H/\fin (f r) (fun ds=>∀vs G' H',Grow X.K G H G' H'->ArgsOk X.K G' H' ms vs ds->Q vs H') (XW X σ G H)
def gR(X:Cx)(g:GE)(m:List Md)(es:List Expr)(ms:List Md)(f:al->Res (List D)):Prop:=PA X es (Kc X g m ms f)
theorem aK:gR X g m [] [] ae:=PA.imp iU fun σ H Q ⟨r,G,si,k⟩=>k [] G H (Grow.refl si.gok) .nil
theorem cL(ha:SE X g m e f)(hr:gR X g m es ms fl)(hs:m_ (e::es) X.env=(false,eval e X.env)::m_ es X.env:=by rfl):gR X g m (e::es) (.sh::ms) (ag f fl):=by
 refine PA.imp (gb ha hr hs) fun σ H Q ⟨r,G,si,k⟩=>⟨r,G,si,a9 (aU k) fun d k1 v G1 H1 w1 r1=>⟨r,G1,si.grow w1,?_⟩⟩
 exact eV (aU k1) w1 fun ds z vs G2 H2 w2 r2=>z (v::vs) G2 H2 (w1.trans w2) (.sh (r1.mono w2.ge) r2)
theorem ai(ha:SB X g m e f)(hr:gR X g m es ms fl)(hs:m_ (e::es) X.env=(false,eval e X.env)::m_ es X.env:=by rfl):gR X g m (e::es) (.bw::ms) (ag f fl):=by
 refine PA.imp (gb ha hr hs) fun σ H Q ⟨r,G,si,k⟩=>⟨r,G,si,a9 (aU k) fun d k1 v G1 H1 w1 r1=>⟨r,G1,si.grow w1,?_⟩⟩
 exact eV (aU k1) w1 fun ds z vs G2 H2 w2 r2=>z (v::vs) G2 H2 (w1.trans w2) (.bw (r1.mono w2) r2)
def az(fl:al->Res (List D))(dds:List D)(F:List D->Res D):FE:=fun r=>(fl r).bind fun ds=>l5 (F (ds++dds))
theorem sk{ro:Bool}{vs:List V}{zs:List D}{G:GH}{H:Hp}{Q:VK}(gk:aC X.K G H)(rs:ArgsOk X.K G H ms vs zs)(hsc:Paired Scl dvs dds)(q:fin (l5 (F (zs++dds))) (fun d=>∀v G' H',Grow X.K G H G' H'->RV ro X.K H G' H' v d->Q v H') fun _=>False):g9 X.K ro (ms++K2 dds.length .sh) F (vs++dvs) H Q E0:=by refine⟨G,zs++dds,gk,rs.app hsc,?_⟩;cases e:F (zs++dds)with
|ok d=>rw[e]at q;exact q
|exc x=>rw[e]at q;exact q.elim
|stuck=>rw[e]at q;exact q.elim
theorem sm{α:Type}{r:Res α}{q:α->Prop}{x:D->Prop}(h:fin r q x)(hr:∀e,r≠.exc e):fin r q fun _=>False:=by cases r with
|ok a=>exact h
|exc e=>exact absurd rfl (hr e)
|stuck=>exact h
theorem qU(r:Res D)(e:D):l5 r≠.exc e:=by cases r <;> simp[l5]
theorem Ec(G1:FnOk X.prog X.w X.K X.mg X.base bQ k fa fd ps (g9 X.K false (ms++K2 dds.length .sh) F))(hr:Room k X.A)(hg:Gl X x)(hm:X.mg x=some (.ref fa))(hk:W.keepIn X.K (.ref fa)=true)(hb:gE X.K fd ps ds)(hd:ak dvs ds)(hsc:Paired Scl dvs dds)(ha:gR X g m (e::es) ms fl)(hdb:(x==("__debug__" : Str))=false:=by decide)(he:m_ (e::es) X.env=(false,eval e X.env)::m_ es X.env:=by rfl)(hpl:(backTo pos (m_ es X.env)).any (·.1)=false:=by rfl):SE X g m (.Call (.Name x p) (e::es) [] pos) (az fl dds F):=by
 refine PE.imp (rB G1 hr hg hm hk hb hd qQ ha hdb he hpl) fun σ H Q ⟨r,G,si,q⟩=>⟨r,G,si,?_⟩
 cases ez:fl r with
|ok zs=>unfold az at q;rw[ez]at q;intro vs G' H' w' rs;exact sk w'.ok rs hsc (a9 (sm q (qU _)) fun d k v G2 H2 w2 rv=>k v G2 H2 (w'.trans w2) rv)
|exc x=>unfold az at q;rw[ez]at q;exact q
|stuck=>unfold az at q;rw[ez]at q;exact q
theorem FF(G1:FnOk X.prog X.w X.K X.mg X.base bQ k fa fd ps (g9 X.K true (ms++K2 dds.length .sh) F))(hr:Room k X.A)(hg:Gl X x)(hm:X.mg x=some (.ref fa))(hk:W.keepIn X.K (.ref fa)=true)(hb:gE X.K fd ps ds)(hd:ak dvs ds)(hsc:Paired Scl dvs dds)(ha:gR X g m (e::es) ms fl)(hdb:(x==("__debug__" : Str))=false:=by decide)(he:m_ (e::es) X.env=(false,eval e X.env)::m_ es X.env:=by rfl)(hpl:(backTo pos (m_ es X.env)).any (·.1)=false:=by rfl):SE X g m (.Call (.Name x p) (e::es) [] pos) (az fl dds F):=by
 intro pz s σ H Q I ⟨r,G,si,q⟩;refine aH (rB G1 hr hg hm hk hb hd qQ ha hdb he hpl pz s σ H (fun v H'=>Q v H'\/∃a,∀ob,Q v (fz H' a ob)) I ⟨r,G,si,?_⟩) fun u s' ⟨v,H',I',rv,z⟩=>?_
 .cases ez:fl r with
 |ok zs=>
   unfold az at q;rw[ez]at q;intro vs G' H' w' rs;refine sk w'.ok rs hsc (a9 (sm q (qU _)) fun d k v G2 H2 w2 rv=>?_);rcases RV.toF w2 rv with⟨G3,w3,r3⟩|⟨a,z⟩
   .exact .inl (k v G3 H2 (w'.trans w3) r3)
   .refine .inr ⟨a,fun ob=>?_⟩;obtain⟨G3,w3,r3⟩:=z ob;exact k v G3 _ (w'.trans w3) r3
 |exc x=>unfold az at q;rw[ez]at q;exact q
 |stuck=>unfold az at q;rw[ez]at q;exact q
 .rcases z with z|⟨a,z⟩
  .exact⟨v,H',I',rv,z⟩
  .obtain⟨ob,I2⟩:=Inv.fast I' a;exact⟨v,_,I2,rv,z ob⟩
def ic(f:FE):FE:=fun r=>(f r).bind fun d=>match d with
|.non=>.stuck
|d=>.ok d
theorem CZ(G1:FnOk X.prog X.w X.K X.mg X.base bQ k fa fd ps (g9 X.K true (ms++K2 dds.length .sh) F))(hr:Room k X.A)(hg:Gl X x)(hm:X.mg x=some (.ref fa))(hk:W.keepIn X.K (.ref fa)=true)(hb:gE X.K fd ps ds)(hd:ak dvs ds)(hsc:Paired Scl dvs dds)(ha:gR X g m (e::es) ms fl)(hdb:(x==("__debug__" : Str))=false:=by decide)(he:m_ (e::es) X.env=(false,eval e X.env)::m_ es X.env:=by rfl)(hpl:(backTo pos (m_ es X.env)).any (·.1)=false:=by rfl):SO X g m (.Call (.Name x p) (e::es) [] pos) (ic (az fl dds F)):=by
 refine PE.imp (rB G1 hr hg hm hk hb hd qQ ha hdb he hpl) fun σ H Q ⟨r,G,si,q⟩=>⟨r,G,si,?_⟩
 cases ez:fl r with
|ok zs=>
  have q:=aU q;unfold az at q;rw[ez]at q;intro vs G' H' w' rs;refine sk w'.ok rs hsc (a9 (sm q (qU _)) fun d k v G2 H2 w2 rv=>?_);rcases rv with⟨a,rfl,hn,ho⟩|⟨rfl,rfl⟩
  .cases d with
  |non=>exact k.elim
  |_=>exact k a G2 H2 (w'.trans w2) (w'.back hn) ho
  .exact k.elim
|exc x=>have q:=aU q;unfold az at q;rw[ez]at q;exact q
|stuck=>have q:=aU q;unfold az at q;rw[ez]at q;exact q
end
theorem Gb{env:Env}:∀(l:List (Str×MP))(cs:List (Str×Addr)),(∀x∈l,x.2=.free->∃c,env.cells.lookup x.1=some c)->(∀x c,cs.lookup x=some c->env.cells.lookup x=some c) ->∃cl,(forIn l cs (fun(x:Str×MP)(cs:List (Str×Addr))=>if (x.2==NameKind.free)=true then(do let a <-RE env x.1;pure (ForInStep.yield ((x.1,a)::cs)))else pure (ForInStep.yield cs)):Sem (List (Str×Addr)))=pure cl /\(∀x c,cl.lookup x=some c->env.cells.lookup x=some c)/\(∀x,(x,NameKind.free)∈l->∃c,cl.lookup x=some c)/\(∀x c,cs.lookup x=some c->∃c',cl.lookup x=some c'):=by
 intro l
 induction l with
|nil=>intro cs _ h;exact⟨cs,rfl,h,fun x hx=>(by cases hx),fun x c h=>⟨c,h⟩⟩
|cons y l ih=>
  intro cs hf hc;obtain⟨n,k⟩:=y;by_cases hk:k=.free
  .subst hk;obtain⟨c,ec⟩:=hf (n,.free) j_ rfl;have e1:RE env n=pure c:=by unfold RE;rw[ec]
   have hc':∀x c',((n,c)::cs).lookup x=some c'->env.cells.lookup x=some c':=fun x c' h=>by rw[Mw]at h;cases q:x==n with
   |true=>rw[q]at h;cases h;rw[Mg q];exact ec
   |false=>rw[q]at h;exact hc x c' h
   obtain⟨cl,e2,h1,h2,h3⟩:=ih ((n,c)::cs) (fun x hx=>hf x (k_ _ hx)) hc';refine⟨cl,?_,h1,fun x hx=>?_,fun x c' h=>?_⟩
   .rw[<-e2];rw[LX];show(RE env n >>= fun a=>pure (ForInStep.yield ((n,a)::cs))) >>= _=_;rw[e1];rfl
   .rcases z_.mp hx with z|z
    .cases z;exact h3 n c (by rw[Mw];simp)
    .exact h2 x z
   .cases q:x==n with
   |true=>exact h3 x c (by rw[Mw,q])
   |false=>exact h3 x c' (by rw[Mw,q];exact h)
  .obtain⟨cl,e2,h1,h2,h3⟩:=ih cs (fun x hx=>hf x (k_ _ hx)) hc;have hb:(k==NameKind.free)=false:=by simpa using hk
   refine⟨cl,?_,h1,fun x hx=>?_,h3⟩
   .rw[<-e2,LX];simp only[hb,L8,if_false];rfl
   .rcases z_.mp hx with z|z
    .cases z;exact absurd rfl hk
    .exact h2 x z
theorem Ij{scope:MO}{env:Env}(hf:∀x∈scope.names,x.2=.free->∃c,env.cells.lookup x.1=some c):∃cl,QR scope env=pure cl/\(∀x c,cl.lookup x=some c->env.cells.lookup x=some c)/\(∀x,(x,NameKind.free)∈scope.names->∃c,cl.lookup x=some c):=by obtain⟨cl,e,h1,h2,_⟩:=Gb scope.names [] hf (fun x c h=>by cases h);refine⟨cl,?_,h1,h2⟩;have e0:QR scope env=((forIn scope.names ([]:List (Str×Addr)) (fun(x:Str×MP)(cs:List (Str×Addr))=>if (x.2==NameKind.free)=true then(do let a <-RE env x.1;pure (ForInStep.yield ((x.1,a)::cs)))else pure (ForInStep.yield cs)):Sem (List (Str×Addr))) >>= fun cs=>pure cs):=rfl;rw[e0,e];rfl
theorem A3{f:Str->MP->MP}:∀(l:List (Str×MP))(x:Str),(l.map fun y=>(y.1,f y.1 y.2)).lookup x=(l.lookup x).map (f x)
|[],x=>rfl
|(n,k)::l,x=>by rw[B_,Mw,Mw];cases q:x==n with
 |true=>simp[Mg q]
 |false=>exact A3 l x
def dq(env:Env)(n:Str)(k:MP):MP:=if (k==.free&&env.scope.kind==.function&&env.kindOf n==some .cell)=true then .cell else k
theorem A6(scope:MO)(env:Env)(x:Str):(P5 scope env).names.lookup x=(scope.names.lookup x).map (dq env x):=by
 rw[<-A3];unfold P5;congr 1;apply KI;intro y _;obtain⟨n,k⟩:=y;show(if (k==NameKind.free&&env.scope.kind==.function&&env.kindOf n==some .cell)=true then(n,NameKind.cell)else(n,k))=(n,dq env n k)
 unfold dq;split <;> rfl
structure CompSc(X:Cx)(scope:MO)(N':List Str)(nl:Nat)(cap:List Nat):Prop where
 kind:scope.kind=.function
 nocell:∀y∈scope.names,y.2≠.cell
 names:∀y∈scope.names,y.2=.local->scope.names.lookup y.1=some .local
 freeK:∀y∈scope.names,y.2=.free->X.env.kindOf y.1=some .cell\/X.env.kindOf y.1=some .free
 len:N'.length=nl+cap.length
 capN:∀j,j<cap.length->∃x,N'[nl+j]? = some x/\X.N[cap.getD j 0]? = some x/\scope.names.lookup x=some .free
def eY(X:Cx)(s₀:f_)(H₀:Hp)(N':List Str)(scope:MO)(cl:List (Str×Addr))(C:Addr)(fp:List Addr):Cx where
 prog:=X.prog
 w:=X.w
 K:=X.K
 mg:=X.mg
 base:=X.base
 A:=X.A
 N:=N'
 s₀:=s₀
 H₀:=H₀
 env:=Pg scope cl C X.env
 outer:=X.stack
 stack:=X.stack
 ex:=fp
 fn:=fun _=>false
 calm:=X.calm
 pn:=[]
 xe:=fun _ _=>False
section
variable{X:Cx}{pz:List (Addr×Obj)}{σ:L2.St}{H:Hp}{s:f_}{scope:MO}{N':List Str}{nl:Nat}{cap:List Nat}{cl:List (Str×Addr)}{C:Addr}{fp:List Addr}
theorem Du(I:Inv X pz σ H s)(sc:CompSc X scope N' nl cap)(h1:∀x c,cl.lookup x=some c->X.env.cells.lookup x=some c)(h2:∀x,(x,NameKind.free)∈scope.names->∃c,cl.lookup x=some c)(hf:∀b∈fp,cO X pz H b/\b<s.heap.objs.size)(hC:s.heap.objs.size<=C):(eY X s H N' scope cl C fp).Ok where
 mod:=I.ok.mod
 kind:=sc.kind
 glob:=I.ok.glob
 blt:=I.ok.blt
 above:=hC
 inj:=fun x y c a b=>I.ok.inj x y c (h1 x c a) (h1 y c b)
 has:=fun x hk=>by
  have hk':(scope.names.lookup x).map (dq X.env x)=some .cell\/(scope.names.lookup x).map (dq X.env x)=some .free:=by rw[<-A6];exact hk
  cases e:scope.names.lookup x with
 |none=>rw[e]at hk';rcases hk' with z|z <;> cases z
 |some k=>
   have hm:=LH e;have kf:k=.free:=by
    rw[e]at hk';have hk2:dq X.env x k=.cell\/dq X.env x k=.free:=by
     rcases hk' with z|z
     .exact .inl (G_ z)
     .exact .inr (G_ z)
    unfold dq at hk2;split at hk2
    .rename_i hc;simp only[Kt,beq_iff_eq]at hc;exact hc.1.1
    .rcases hk2 with z|z
     .exact absurd z (sc.nocell _ hm)
     .exact z
   subst kf;exact h2 x hm
 cab:=fun x c h=>by cases h
 hd:=I.ok.hd
 frames:=I.ok.frames
 stk:=.inl rfl
 exf:=fun b hb=>⟨D_ (F_ (hf b hb).2 hC),fun x c e=>(hf b hb).1.2.2.2.2.1 x c (h1 x c e)⟩
 bs:=I.bs
 bsz:=KF I.ok.bsz I.sz
 noex:=fun b o e hb=>by
  obtain⟨_,_,_,hx,_⟩:=(hf b hb).1;rcases hx with z|z
  .exact I.ok.noex b o e z
  .exact absurd (F_ (o_ e) (KF I.ok.bsz z)) (K_ _)
 exfs:=fun b hb hfs=>by
  obtain⟨_,q1,q2,_⟩:=(hf b hb).1;rcases z_.mp (I.stkSub b hfs)with z|z
  .exact q1 z
  .exact q2 z
 funs:=I.stack
 frf:=I.stkFree
end
def eZ(ft:FT)(q:FQ)(fe:FE)(r0:al):List D->Res (List D)
|[]=>.ok []
|d::ds=>(bH (ft d r0)).bind fun r1=>(q r1).bind fun c=>if c=true then(fe r1).bind fun v=>(eZ ft q fe r0 ds).bind fun vs=>.ok (v::vs)else eZ ft q fe r0 ds
def bf(nl:Nat)(cap:List Nat)(r:al):al:=K2 nl none++cap.map fun i=>r.getD i none
def aG(nl:Nat)(cap:List Nat)(m:List Md):List Md:=K2 nl Md.sh++cap.map fun i=>if m.getD i Md.sh=Md.sh then Md.sh else Md.bw
def c0(nl:Nat)(cap:List Nat)(st:L2.St):L2.St:=K2 nl none++cap.map fun i=>st.getD i none
theorem mM{α:Type}{nl:Nat}{cap:List Nat}{u:α}{h:Nat->α}{i:Nat}(hi:nl<=i):(K2 nl u++cap.map h)[i]? = (cap[i-nl]?).map h:=by rw[Lg (by simpa using hi),L_,x_]
section
variable{X:Cx}{pz:List (Addr×Obj)}{σ:L2.St}{H H':Hp}{s:f_}{scope:MO}{N':List Str}{nl:Nat}{cap:List Nat}{cl:List (Str×Addr)}{C:Addr}{fp:List Addr}{g:GE}{G G':GH}{m:List Md}{r:al}
theorem BH(si:SI X g m r G σ H)(w:Grow X.K G H G' H'):SI (eY X s H N' scope cl C fp) ⟨G,H,fun _=>none⟩ (aG nl cap m) (bf nl cap r) G' (c0 nl cap σ) H':=by
 have lens:(aG nl cap m).length=nl+cap.length:=by simp[aG]
 have lens2:(bf nl cap r).length=nl+cap.length:=by simp[bf]
 have lens3:(c0 nl cap σ).length=nl+cap.length:=by simp[c0]
 have rget:∀(i:Nat) d,(bf nl cap r)[i]? = some (some d)->nl<=i/\∃j,cap[i-nl]? = some j/\r[j]? = some (some d):=fun i d h=>by
  by_cases hi:i<nl
  .unfold bf at h;rw[J_ (by simpa using hi),Lw]at h;split at h <;> cases h
  .refine⟨by omega,?_⟩;unfold bf at h;rw[mM (by omega)]at h;cases e:cap[i-nl]? with
  |none=>rw[e]at h;cases h
  |some j=>rw[e]at h;refine⟨j,rfl,?_⟩;have h':r.getD j none=some d:=G_ h;rw[A_]at h';cases e2:r[j]? with
   |none=>rw[e2]at h';cases h'
   |some o=>rw[e2]at h';rw[show o=some d from h']
 have mget:∀(i j:Nat) md,nl<=i->cap[i-nl]? = some j->(aG nl cap m)[i]? = some md->md=if m.getD j Md.sh=Md.sh then Md.sh else Md.bw:=fun i j md hi hj h=>by unfold aG at h;rw[mM hi,hj]at h;exact(G_ h).symm
 have sget:∀(i j:Nat) v,nl<=i->cap[i-nl]? = some j->σ[j]? = some (some v)->(c0 nl cap σ)[i]? = some (some v):=fun i j v hi hj h=>by unfold c0;rw[mM hi,hj];show some (σ.getD j none)=_;rw[A_,h];rfl
 have mj:∀(j:Nat) d,r[j]? = some (some d)->m[j]? = some (m.getD j Md.sh):=fun j d h=>by
  have hl:j<m.length:=by have:=(c_.mp h).1;rw[si.lr,<-si.lm]at this;exact this
  rw[A_,d_ hl];rfl
 refine⟨w.ok,w.he,w.ge,w.gf,by rw[lens,lens3],by rw[lens2,lens3],fun i d h hm=>?_,fun i d h hm=>?_,fun i d h hm=>?_,fun i j a d e _ h _ hm=>?_,fun i o h=>nomatch h⟩
 .obtain⟨hi,j,hj,hr⟩:=rget i d h;have e:=mget i j _ hi hj hm;have hsh:m.getD j Md.sh=Md.sh:=by
   by_cases z:m.getD j Md.sh=Md.sh
   .exact z
   .rw[if_neg z]at e;cases e
  obtain⟨v,h1,h2⟩:=si.sh j d hr (by rw[mj j d hr,hsh]);exact⟨v,sget i j v hi hj h1,h2.mono w.ge⟩
 .obtain⟨hi,j,hj,hr⟩:=rget i d h;have e:=mget i j _ hi hj hm;split at e <;> cases e
 .obtain⟨hi,j,hj,hr⟩:=rget i d h;have e:=mget i j _ hi hj hm;have hsh:m.getD j Md.sh≠Md.sh:=by intro z;rw[if_pos z]at e;cases e
  have hmj:=mj j d hr;cases q:m.getD j Md.sh with
 |sh=>exact absurd q hsh
 |ow=>rw[q]at hmj;obtain⟨a,h1,h2,_⟩:=si.ow j d hr hmj;exact⟨_,sget i j _ hi hj h1,.inr ⟨a,rfl,h2.mono w,h2.ob.isS⟩⟩
 |bw=>
   rw[q]at hmj;obtain⟨v,h1,h2⟩:=si.bw j d hr hmj;refine⟨v,sget i j _ hi hj h1,?_⟩;rcases h2 with h2|⟨a,rfl,h2,_⟩
   .exact .inl (h2.mono w.ge)
   .exact .inr ⟨a,rfl,h2.mono w,h2.ob.isS⟩
 .obtain⟨hi,j',hj,hr⟩:=rget i d h;have e:=mget i j' _ hi hj hm;split at e <;> cases e
theorem Do(I:Inv X pz σ H s)(ok:(eY X s H N' scope cl C fp).Ok)(sc:CompSc X scope N' nl cap)(h1:∀x c,cl.lookup x=some c->X.env.cells.lookup x=some c)(h2:∀x,(x,NameKind.free)∈scope.names->∃c,cl.lookup x=some c)(hN:X.N.Nodup){s4:f_}{H4:Hp}{mc:Str->Option a_}(hos:s4.os=s.os)(hb:Nt s4.gens)(kp:∀b o,s.heap.get? b=some o->s4.heap.get? b=some o)(hns:s4.heap.Ns C mc)(hC:s.heap.objs.size<=C)(hHC:H4 C=none)(hH:∀b,H b=none->b<s.heap.objs.size->H4 b=none)(un:Un (di X.stack) fp H H4 s.heap s4.heap)(hok:cn X.prog X.w H4 s4.heap):Inv (eY X s H N' scope cl C fp) [] (c0 nl cap σ) H4 s4:=by
 refine⟨ok,hos,hb,un,⟨mc,hns,fun i x v e1 e2 e3=>?_⟩,fun x c e=>?_,hHC,fun x c e=>?_,fun p hp=>absurd (show p∈([]:List (Addr×Obj))from hp) (by simp),hok,?_⟩
 .have hi:nl<=i:=by
   by_cases z:i<nl
   .unfold c0 at e2;rw[J_ (by simpa using z),Lw]at e2;split at e2 <;> cases e2
   .omega
  unfold c0 at e2;rw[mM hi]at e2;cases ej:cap[i-nl]? with
 |none=>rw[ej]at e2;cases e2
 |some j=>
   rw[ej]at e2;have hj:i-nl<cap.length:=(c_.mp ej).1;obtain⟨x',q1,q2,q3⟩:=sc.capN (i-nl) hj;have ed:cap.getD (i-nl) 0=j:=by rw[A_,ej];rfl
   rw[ed]at q2;have ei:nl+(i-nl)=i:=by omega
   rw[ei]at q1;have e1':N'[i]? = some x:=e1;rw[q1]at e1';have ex:x'=x:=G_ e1';subst ex;have hv:σ[j]? = some (some v):=by have z:σ.getD j none=some v:=G_ e2;rw[A_]at z;cases q:σ[j]? with
   |none=>rw[q]at z;cases z
   |some o=>rw[q]at z;rw[show o=some v from z]
   have hfree:=LH q3;have kX:=sc.freeK _ hfree rfl;obtain⟨mx,hnx,hl⟩:=I.loc;obtain⟨u,ru,lk⟩:=hl j x' v q2 hv (.inr kX);refine⟨u,ru,.inr ?_⟩;obtain⟨c,ec⟩:=h2 x' hfree;have hkk:Env.kindOf (eY X s H N' scope cl C fp).env x'=some .cell\/Env.kindOf (eY X s H N' scope cl C fp).env x'=some .free:=by
    have z:(P5 scope X.env).names.lookup x'=some (dq X.env x' .free):=by rw[A6,q3];rfl
    show(P5 scope X.env).names.lookup x'=_\/(P5 scope X.env).names.lookup x'=_;rw[z];unfold dq;split
    .exact .inl rfl
    .exact .inr rfl
   refine⟨hkk,c,ec,?_⟩;rcases lk with⟨k,_⟩|⟨_,c',ec',hcell⟩
   .rcases kX with z|z <;> rw[k]at z <;> cases z
   .rw[h1 x' c ec]at ec';cases ec';obtain⟨o,ho,hd⟩:=hcell;exact⟨o,kp c o ho,hd⟩
 .obtain⟨v,o,ho,hd⟩:=I.cell x c (h1 x c e);exact⟨v,o,kp c o ho,hd⟩
 .obtain⟨v,o,ho,hd⟩:=I.cell x c (h1 x c e);exact hH c (I.freeC x c (h1 x c e)) (o_ ho)
 .show(c0 nl cap σ).length=N'.length;rw[sc.len];simp[c0]
end
section
variable{prog:E_}{w:Kz}{A:KM}{R:QJ->f_->Prop}{s:f_}
theorem ES{elt target iter:Expr}{ifs:List Expr}{scope:MO}{pos:Pos}{it acc:a_}{env:Env}(I:Nat->f_->Prop)(turn:∀n s,I n s->C_ (H_ prog w) A (ND it) (fun r s1=>match r with
  |none=>R (.ok .next) s1
  |some v=>C_ (H_ prog w) A (NE target it v) (fun _ s1'=>C_ (H_ prog w) A (NC target env v) (fun _ s2=>
     C_ (H_ prog w) A (forIn ifs true fun c r=>if r=true then do let ok <-isTrue c env (eval c env);pure (ForInStep.yield ok)else pure (ForInStep.yield r)) (fun ok s3=>
      if ok=true then C_ (H_ prog w) A (eval elt env) (fun x s4=>C_ (H_ prog w) A (call (.builtin "list.append") [acc,x]) (fun _ s5=>∃m,m<n/\I m s5) (OT (H_ prog w) A env fun e s'=>R (.error e) s') s4) (OT (H_ prog w) A env fun e s'=>R (.error e) s') s3
      else ∃m,m<n/\I m s3) (OT (H_ prog w) A env fun e s'=>R (.error e) s') s2) (OT (H_ prog w) A env fun e s'=>R (.error e) s') s1')
     (OT (H_ prog w) A env fun e s'=>R (.error e) s') s1) (OT (H_ prog w) A env fun e s'=>R (.error e) s') s)(n:Nat)(h:I n s):NN (H_ prog w) A (.compLoop (.ListComp elt [⟨target,iter,ifs,0⟩] scope pos) 0 it acc env) R s:=by refine codeAny_loop rfl I (fun n s hI=>?_) n h;show C_ _ A ((compTurn (.ListComp elt [⟨target,iter,ifs,0⟩] scope pos) 0 it acc env).onRaise (fun x=>do noteFrame x env;theTreesLotGoes x)) _ _ s;refine wpAny_noted ?_;rw[compTurn_list];refine b_ (Oj (b_ (LW (turn n s hI) (fun r s1 h1=>?_) fun _ _ h'=>h')));cases r with
|none=>exact u_ h1
|some v=>refine b_ (LW h1 (fun _ s1' h1'=>?_) fun _ _ h'=>h');refine b_ (LW h1' (fun _ s2 h2=>b_ (LW h2 (fun ok s3 h3=>?_) fun _ _ h'=>h')) fun _ _ h'=>h');cases ok with
 |false=>exact u_ ⟨rfl,h3⟩
 |true=>exact b_ (b_ (LW h3 (fun x s4 h4=>b_ (LW h4 (fun _ s5 h5=>u_ (u_ ⟨rfl,h5⟩)) fun _ _ h'=>h')) fun _ _ h'=>h'))
end
def kT(X:Cx)(g:GE)(m:List Md)(ifs:List Expr)(f:FQ):Prop:=∀(pz:List (Addr×Obj))(s:f_)(σ:L2.St)(H:Hp)(Q:Bool->Hp->Prop),Inv X pz σ H s->tQ X g m f σ H Q ->C_ (H_ X.prog X.w) X.A (forIn ifs true fun c r=>if r=true then do let ok <-isTrue c X.env (eval c X.env);pure (ForInStep.yield ok)else pure (ForInStep.yield r)) (TP X pz σ Q) X.xe s
section
variable{X:Cx}{g:GE}{m:List Md}{c:Expr}{p:FQ}
theorem gX:kT X g m [] fun _=>.ok true:=fun pz s σ H Q I ⟨r,G,si,q⟩=>wpAny_tests_nil ⟨H,I,q G H (Grow.refl si.gok)⟩
theorem jB(h:SQ X g m c p):kT X g m [c] p:=fun pz s σ H Q I q=>wpAny_tests_one (h pz s σ H Q I q)
end
def gz(ft:FT)(nl:Nat):Prop:=∀d r r1,ft d r=some r1->r1.length=r.length/\∀i,nl<=i->r1[i]? = r[i]?
def n9(ft:iK)(nl:Nat):Prop:=∀d r r1,ft d r=some r1->r1.length=r.length/\∀i,nl<=i->r1[i]? = r[i]?
theorem dC{i nl:Nat}(h:i<nl):gz (aE i) nl:=fun d r r1 e=>by cases e;exact⟨by simp,fun j hj=>by rw[g_ (by omega)]⟩
theorem Gf{nl:Nat}:n9 gH nl:=fun ds r r1 e=>by cases ds with
|nil=>cases e;exact⟨rfl,fun _ _=>rfl⟩
|cons _ _=>cases e
theorem zS{ft:FT}{fts:iK}{nl:Nat}(h1:gz ft nl)(h2:n9 fts nl):n9 (cS ft fts) nl:=fun ds r r1 e=>by cases ds with
|nil=>cases e
|cons d ds=>have e':((ft d r).bind fun r'=>fts ds r')=some r1:=e;cases q:ft d r with
 |none=>rw[q]at e';cases e'
 |some r2=>rw[q]at e';obtain⟨a1,a2⟩:=h1 d r r2 q;obtain⟨b1,b2⟩:=h2 ds r2 r1 e';exact⟨b1.trans a1,fun i hi=>(b2 i hi).trans (a2 i hi)⟩
theorem C9{fts:iK}{nl:Nat}(h:n9 fts nl):gz (gP fts) nl:=fun d r r1 e=>by cases d with
|tup ds=>exact h ds r r1 e
|lst ds=>exact h ds r r1 e
|_=>cases e
section
variable{X:Cx}{pz:List (Addr×Obj)}{σ:L2.St}{H2:Hp}{s2:f_}{scope:MO}{N':List Str}{nl:Nat}{cap:List Nat}{cl:List (Str×Addr)}{fp:List Addr}{g:GE}{G2:GH}{m:List Md}{r:al}{elt tg iter:Expr}{ifs:List Expr}{pos:Pos}{J:It}{it:Addr}{tn:Nat->Heap->Prop}{ds vs:List D}{ft:FT}{q:FQ}{fe:FE}{E:a_->f_->Prop}
theorem EQ(i:Nat):(aG nl cap m)[i]?≠some Md.ow:=fun h=>by
 by_cases hi:i<nl
 .unfold aG at h;rw[J_ (by simpa using hi),Lw]at h;split at h <;> cases h
 .unfold aG at h;rw[mM (by omega)]at h;cases e:cap[i-nl]? with
 |none=>rw[e]at h;cases h
 |some j=>rw[e]at h;have h':(if m.getD j Md.sh=Md.sh then Md.sh else Md.bw)=Md.ow:=G_ h;split at h' <;> cases h'
theorem GL{i:Nat}(hi:i<nl)(d:D):(bf nl cap r)[i]?≠some (some d):=fun h=>by unfold bf at h;rw[J_ (by simpa using hi),Lw]at h;split at h <;> cases h
theorem zO(hN:X.N.Nodup)(hcalm:X.calm=true)(sc:CompSc X scope N' nl cap)(h1:∀x c,cl.lookup x=some c->X.env.cells.lookup x=some c)(h2:∀x,(x,NameKind.free)∈scope.names->∃c,cl.lookup x=some c)(I2:Inv X pz σ H2 s2)(si:SI X g m r G2 σ H2)(T:Turn X.prog X.w X.K tg J fp it tn)(st:tn 0 s2.heap)(hf:∀b∈fp,cO X pz H2 b)(Y:YieldsC X.K J ds G2 H2)(hsz:ds.length<=sizeLine)(hg:∀C,SG (eY X s2 H2 N' scope cl C fp) ⟨G2,H2,fun _=>none⟩ (aG nl cap m) tg ft (aG nl cap m))(hft:gz ft nl)(hq:∀C,kT (eY X s2 H2 N' scope cl C fp) ⟨G2,H2,fun _=>none⟩ (aG nl cap m) ifs q)(he:∀C,SE (eY X s2 H2 N' scope cl C fp) ⟨G2,H2,fun _=>none⟩ (aG nl cap m) elt fe)(hres:eZ ft q fe (bf nl cap r) ds=.ok vs){RR:a_->Addr->QJ->f_->Prop}(hRR:∀(p C:Addr)(s':f_)(H':Hp)(G':GH),Inv X pz σ H' s'->(∃mm,s'.heap.Ns C mm)->H' C=none->C≠X.env.locals->X.s₀.heap.objs.size<=C->(∀x c,X.env.cells.lookup x=some c->c≠C)->(∀z∈X.pn++pz,z.1≠C) ->Grow X.K G2 H2 G' H'->H2 p=none->Own X.K G' H' p (.lst vs)->RR (.ref p) C (.ok .next) s'):C_ (H_ X.prog X.w) X.A (newList []) (fun acc s3=>C_ (H_ X.prog X.w) X.A (newFunctionEnv scope X.env.globals cl [] X.env.qual none .none (some X.env)) (fun cenv s4=>NN (H_ X.prog X.w) X.A (.compStart (.ListComp elt [⟨tg,iter,ifs,0⟩] scope pos) 0 (.ref it) acc { cenv with scope:=P5 scope X.env }) (RR acc cenv.locals) s4) E s3) E s2:=by
 refine LV (wpAny_newFunctionEnv sc.nocell (by intro y hy;simp at hy) (fun h₁ hns₁ hsb₁=>?_) sc.kind)
 dsimp only at hns₁ hsb₁ ⊢
 generalize hH2:s2.heap.push { cls:=.type "list",dict:=none,data:=.seq ([]:List a_).toArray }=HH at hns₁ hsb₁ ⊢;have hC:HH.objs.size=s2.heap.objs.size+1:=by rw[<-hH2,Lo]
 have hDC:s2.heap.objs.size≠HH.objs.size:=by rw[hC];exact D_ (Mt _)
 have hCle:s2.heap.objs.size<=HH.objs.size:=by rw[hC];exact Qs _
 have below:∀b,b<s2.heap.objs.size->b≠HH.objs.size/\b≠s2.heap.objs.size:=fun b hb=>⟨by rw[hC];exact D_ (Nk hb),D_ hb⟩
 have old:∀b o,s2.heap.get? b=some o->h₁.get? b=some o:=fun b o e=>hsb₁.extBut b o (below b (o_ e)).1 (e_ _ (hH2▸e_ _ e));have hacc:h₁.get? s2.heap.objs.size=some { cls:=.type "list",dict:=none,data:=.seq ([]:List a_).toArray }:=hsb₁.extBut _ _ hDC (e_ _ (hH2▸y_ _ rfl));have hp2:H2 s2.heap.objs.size=none:=I2.hok.fresh (q_ _);have hflt:∀b∈fp,cO X pz H2 b/\b<s2.heap.objs.size:=fun b hb=>⟨hf b hb,by obtain⟨o,e,_⟩:=T.obj 0 s2.heap st b hb;exact o_ e⟩
 have ok:=Du (fp:=fp) I2 sc h1 h2 hflt hCle;generalize hXX:eY X s2 H2 N' scope cl HH.objs.size fp=XX at ok;have hG2p:G2 s2.heap.objs.size=none:=si.gok.isN hp2;have w0:Grow X.K G2 H2 G2 (upd H2 s2.heap.objs.size (.lst [])):=Grow.new si.gok hp2 _;have hok4:cn X.prog X.w (upd H2 s2.heap.objs.size (.lst [])) h₁:=I2.hok.laid old (q_ _) ⟨KN _,[],0,.nil,hacc⟩;have IC:Inv XX [] (c0 nl cap σ) (upd H2 s2.heap.objs.size (.lst [])) { s2 with heap:=h₁,toks:=s2.toks+([]:List (Str×a_)).length }:=by
  subst hXX;refine Do I2 ok sc h1 h2 hN rfl I2.bare old hns₁ hCle ?_ (fun b hb hlt=>?_) (Un.laid old (q_ _) hp2) hok4
  .rw[bg (Mh hDC)];exact I2.hok.fresh hCle
  .rw[bg (below b hlt).2];exact hb
 have SC:SI XX ⟨G2,H2,fun _=>none⟩ (aG nl cap m) (bf nl cap r) G2 (c0 nl cap σ) (upd H2 s2.heap.objs.size (.lst [])):=by subst hXX;exact BH si w0
 have hst₁:tn 0 h₁:=T.keep _ _ _ st fun b _ o e=>old b o e;have hfX:∀(H':Hp),(∀b∈fp,H' b=none)->∀b∈fp,cO XX [] H' b:=fun H' hn b hb=>by
  clear IC SC;subst hXX;obtain⟨z0,z1,z2,z3,z4,z5⟩:=hf b hb;refine⟨hn b hb,?_,?_,?_,?_,?_⟩
  .exact(below b (hflt b hb).2).1
  .intro hfs;rcases z_.mp (I2.stkSub b hfs)with z|z
   .exact z1 z
   .exact z2 z
  .exact .inl hb
  .exact fun x c e=>z4 x c (h1 x c e)
  .intro p hp;exact absurd (show p∈([]:List (Addr×Obj))from hp) (by simp)
 have eA:XX.A=X.A:=Eq.rec (motive:=fun z _=>z.A=X.A) rfl hXX;have eP:XX.prog=X.prog:=Eq.rec (motive:=fun z _=>z.prog=X.prog) rfl hXX;have eW:XX.w=X.w:=Eq.rec (motive:=fun z _=>z.w=X.w) rfl hXX;have eK:XX.K=X.K:=Eq.rec (motive:=fun z _=>z.K=X.K) rfl hXX;have eX:XX.xe=fun _ _=>False:=Eq.rec (motive:=fun z _=>z.xe=fun _ _=>False) rfl hXX;have eE:XX.env=Pg scope cl HH.objs.size X.env:=Eq.rec (motive:=fun z _=>z.env=Pg scope cl HH.objs.size X.env) rfl hXX;have eC:XX.calm=true:=Eq.rec (motive:=fun z _=>z.calm=true) hcalm hXX;have eH:XX.H₀=H2:=Eq.rec (motive:=fun z _=>z.H₀=H2) rfl hXX;have hg':PG XX tg (tG XX ⟨G2,H2,fun _=>none⟩ (aG nl cap m) (aG nl cap m) ft):=Eq.rec (motive:=fun z _=>PG z tg (tG z ⟨G2,H2,fun _=>none⟩ (aG nl cap m) (aG nl cap m) ft)) (hg _).2 hXX;have hq':kT XX ⟨G2,H2,fun _=>none⟩ (aG nl cap m) ifs q:=Eq.rec (motive:=fun z _=>kT z ⟨G2,H2,fun _=>none⟩ (aG nl cap m) ifs q) (hq _) hXX;have he':SE XX ⟨G2,H2,fun _=>none⟩ (aG nl cap m) elt fe:=Eq.rec (motive:=fun z _=>SE z ⟨G2,H2,fun _=>none⟩ (aG nl cap m) elt fe) (he _) hXX;have fin':∀{H':Hp}{s':f_}{σ':L2.St}{G':GH}{ws:List V},Inv XX [] σ' H' s'->Grow X.K G2 H2 G' H'->H' s2.heap.objs.size=some (.lst ws)->G' s2.heap.objs.size=none->ba X.K G' ws vs->RR (.ref s2.heap.objs.size) HH.objs.size (.ok .next) s':=fun{H' s' σ' G' ws} J1 wg hpp hgp rs=>by
  clear IC SC hfX hg' hq' he' eA eP eW eK eX eE eC eH;subst hXX;have un:=J1.base;refine hRR _ _ s' H' G' ?_ (let⟨mm,hn,_⟩:=J1.loc;⟨mm,hn⟩) J1.free (KL (F_ I2.lt hCle)) (KF I2.sz hCle) (fun x c e z=>?_) (fun z hz e=>?_) wg hp2 ⟨hgp,.lst hpp rs⟩
  .refine I2.call' J1.os un J1.hok J1.bare fun b hb=>?_;obtain⟨z0,z1,z2,z3,z4,z5⟩:=hf b hb;exact⟨z3,z1,z4,z5⟩
  .obtain⟨v,o,ho,_⟩:=I2.cell x c e;exact absurd (F_ (o_ ho) hCle) (by rw[z];exact K_ _)
  .have:=(I2.pin z hz).1;exact absurd (F_ (o_ this) hCle) (by rw[e];exact K_ _)
 have loop:NN (H_ X.prog X.w) X.A (.compLoop (.ListComp elt [⟨tg,iter,ifs,0⟩] scope pos) 0 (.ref it) (.ref s2.heap.objs.size) (Pg scope cl HH.objs.size X.env)) (RR (.ref s2.heap.objs.size) HH.objs.size)
   { s2 with heap:=h₁,toks:=s2.toks+([]:List (Str×a_)).length }:=by
  refine ES (fun n s'=>∃(i:Nat)(σ':L2.St)(H':Hp)(G':GH)(ws:List V)(done rest:List D),Inv XX [] σ' H' s'/\SI XX ⟨G2,H2,fun _=>none⟩ (aG nl cap m) (bf nl cap r) G' σ' H'/\tn i s'.heap/\(∀b∈fp,H' b=none)/\Grow X.K G2 H2 G' H' /\H' s2.heap.objs.size=some (.lst ws)/\G' s2.heap.objs.size=none/\ba X.K G' ws done/\eZ ft q fe (bf nl cap r) (ds.drop i)=.ok rest/\vs=done++rest/\done.length<=i/\i<=ds.length/\n=ds.length-i) ?_ ds.length
   ⟨0,_,_,G2,[],[],vs,IC,SC,hst₁,fun b hb=>?_,w0,bO,hG2p,.nil,hres,rfl,q_ _,KN _,rfl⟩
  rotate_left
  .rw[bg (below b (hflt b hb).2).2];exact(hf b hb).1
  rintro n s3 ⟨i,σ3,H3,G3,ws,done,rest,I3,S3,st3,fr3,w3,hp3,hg3,rs3,hr3,hv3,hd3,hi3,rfl⟩
  have weaken:∀{α:Type}{t:Sem α}{Q:α->f_->Prop}{s':f_}{E':a_->f_->Prop},C_ (H_ XX.prog XX.w) XX.A t Q XX.xe s'->C_ (H_ X.prog X.w) X.A t Q E' s':=fun h=>by rw[eP,eW,eA,eX]at h;exact LW h (fun _ _ z=>z) fun _ _ z=>z.elim
  by_cases hlt:i<ds.length
  .have hd:ds.drop i=ds[i]::ds.drop (i+1):=Mb hlt;rw[hd]at hr3;unfold eZ at hr3;have it3:=T.item XX eP eW eK eC i [] s3 σ3 H3 (OT (H_ X.prog X.w) X.A (Pg scope cl HH.objs.size X.env) fun e s'=>RR (.ref s2.heap.objs.size) HH.objs.size (.error e) s') I3 (hfX H3 fr3) st3 (Y.go G3 H3 i w3 hlt);rw[eA]at it3;refine aH it3 fun rr s4 ⟨u,hr,h4⟩=>?_;subst hr;refine aH h4 fun _ s5 ⟨x,H5,I5,r5,y5,st5,fr5⟩=>?_;obtain⟨G5,w5,rv5⟩:=Y.yld G3 H3 i x H5 ds[i] w3 y5 (d_ hlt);have w25:=w3.trans w5;cases eft:ft ds[i] (bf nl cap r)with
  |none=>rw[eft]at hr3;cases hr3
  |some r1=>
    rw[eft]at hr3;simp only[opt_some,bind_ok]at hr3;have I5':=I5.pinned (hfX H5 fr5) (T.obj _ _ st5);have S5:SI XX ⟨G2,H2,fun _=>none⟩ (aG nl cap m) (bf nl cap r) G5 σ3 H5:=S3.grow (by rw[eK];exact w5);have rv5':RG XX.K G5 x ds[i]:=by rw[eK];exact rv5
    have as5:=hg' _ s5 σ3 H5 x u (fun σ6 H6=>H6=H5/\SI XX ⟨G2,H2,fun _=>none⟩ (aG nl cap m) r1 G5 σ6 H5) I5' r5 ⟨bf nl cap r,G5,ds[i],S5,rv5',r1,eft,fun σ6 si6=>⟨rfl,si6⟩⟩;rw[eE]at as5;refine aH (weaken as5) fun _ s6 ⟨σ6,H6,I6,e6,S6⟩=>?_;subst e6;obtain⟨fl1,fl2⟩:=hft _ _ _ eft;cases eq1:q r1 with
   |stuck=>rw[eq1]at hr3;cases hr3
   |exc xx=>rw[eq1]at hr3;cases hr3
   |ok b1=>
     rw[eq1]at hr3;simp only[bind_ok]at hr3;have te6:=hq' _ s6 σ6 H6 (fun b H7=>b=b1/\∃G7,Grow X.K G5 H6 G7 H7) I6 ⟨r1,G5,S6,by rw[eq1];exact fun G7 H7 w7=>⟨rfl,G7,by rw[eK]at w7;exact w7⟩⟩;rw[eE]at te6;refine aH (weaken te6) fun b s7 ⟨H7,I7,eb,G7,w7⟩=>?_;subst eb;have S7:SI XX ⟨G2,H2,fun _=>none⟩ (aG nl cap m) r1 G7 σ6 H7:=S6.grow (by rw[eK];exact w7);have w27:=w25.trans w7;have hp7:H7 s2.heap.objs.size=some (.lst ws):=w7.he _ _ (w5.he _ _ hp3);have hg7:G7 s2.heap.objs.size=none:=by rw[w7.gf _ (by rw[w5.he _ _ hp3];simp),w5.gf _ (by rw[hp3];simp)];exact hg3
     have back:∀{σ8:L2.St}{H8:Hp}{G8:GH}{s8:f_},Inv XX ([]++mz fp s5.heap) σ8 H8 s8->Inv XX [] σ8 H8 s8/\tn (i+1) s8.heap/\∀b∈fp,H8 b=none:=fun{σ8 H8 G8 s8} I8=>by refine⟨I8.unpinned,T.keep _ _ _ st5 fun b hb o e=>(I8.pin (b,o) (KG _ (KG _ (pF hb e)))).1,fun b hb=>?_⟩;obtain⟨o,e,_⟩:=T.obj _ _ st5 b hb;exact(I8.pin (b,o) (KG _ (KG _ (pF hb e)))).2.1
     have less:∀{σ8:L2.St}{H8:Hp}{G8:GH},SI XX ⟨G2,H2,fun _=>none⟩ (aG nl cap m) r1 G8 σ8 H8->SI XX ⟨G2,H2,fun _=>none⟩ (aG nl cap m) (bf nl cap r) G8 σ8 H8:=fun h=>h.less fl1.symm fun j d hj=>by
      by_cases hjn:j<nl
      .exact absurd hj (GL hjn d)
      .rw[fl2 j (by omega)];exact hj
     cases b with
    |false=>rw[if_neg i_]at hr3 ⊢;obtain⟨I7',t7,f7⟩:=back (G8:=G7) I7;exact⟨ds.length-(i+1),by omega,i+1,σ6,H7,G7,ws,done,rest,I7',less S7,t7,f7,w27,hp7,hg7,rs3.mono (aI.trans w5.ge w7.ge),hr3,hv3,by omega,hlt,rfl⟩
    |true=>rw[if_pos rfl]at hr3 ⊢;cases ee1:fe r1 with
     |stuck=>rw[ee1]at hr3;cases hr3
     |exc xx=>rw[ee1]at hr3;cases hr3
     |ok d1=>rw[ee1]at hr3;simp only[bind_ok]at hr3;cases er:eZ ft q fe (bf nl cap r) (ds.drop (i+1))with
      |stuck=>rw[er]at hr3;cases hr3
      |exc xx=>rw[er]at hr3;cases hr3
      |ok rest'=>
        rw[er]at hr3;simp only[bind_ok]at hr3;cases hr3;have el7:=he' _ s7 σ6 H7 (fun v H8=>∃G8,Grow X.K G7 H7 G8 H8/\RG X.K G8 v d1) I7 ⟨r1,G7,S7,by rw[ee1];exact fun v G8 H8 w8 rv=>⟨G8,by rw[eK]at w8;exact w8,by rw[eK]at rv;exact rv⟩⟩;rw[eE]at el7;refine aH (weaken el7) fun u8 s8 ⟨v8,H8,I8,r8,G8,w8,rv8⟩=>?_;have hp8:H8 s2.heap.objs.size=some (.lst ws):=w8.he _ _ hp7;have hg8:G8 s2.heap.objs.size=none:=by rw[w8.gf _ (by rw[hp7];simp)];exact hg7
        have S8:SI XX ⟨G2,H2,fun _=>none⟩ (aG nl cap m) r1 G8 σ6 H8:=S7.grow (by rw[eK];exact w8);have hlen:=Paired.length rs3;have ap8:=jF (X:=XX) _ s8 σ6 H8 (.ref s2.heap.objs.size) [v8] (.ref s2.heap.objs.size) [u8] (fun v H9=>H9=upd H8 s2.heap.objs.size (.lst (ws++[v8]))) I8 rfl (.cons r8 .nil) ⟨_,ws,v8,rfl,rfl,hp8,by omega,rfl⟩;refine aH (weaken ap8) fun u9 s9 ⟨v9,H9,I9,r9,e9⟩=>?_;subst e9;obtain⟨I9',t9,f9⟩:=back (G8:=G8) I9;have rsn:ba X.K G8 (ws++[v8]) (done++[d1]):=Paired.snoc (rs3.mono (aI.trans (aI.trans w5.ge w7.ge) w8.ge)) rv8;have w28:=w27.trans w8;refine⟨ds.length-(i+1),by omega,i+1,σ6,_,G8,ws++[v8],done++[d1],rest',I9',less (S8.other hg8 hp2 EQ _),t9,f9,?_,bO,hg8,rsn,er,by rw[hv3,K8];rfl,by rw[I_,MI];omega,hlt,rfl⟩;refine⟨fun b e hb=>(w28.ok b e hb).mono (fun _ _ z=>z) fun o z=>?_,fun b o hb=>?_,w28.ge,w28.gf⟩
        .rw[bg (by rintro rfl;rw[hg8]at hb;cases hb)];exact z
        .rw[bg (by rintro rfl;rw[hp2]at hb;cases hb)];exact w28.he b o hb
  .have e:i=ds.length:=by omega
   subst e;rw[Nq]at hr3;cases hr3;rw[KA]at hv3;subst hv3;have dn:=T.done XX eP eW eK eC ds.length [] s3 σ3 H3 (OT (H_ X.prog X.w) X.A (Pg scope cl HH.objs.size X.env) fun e s'=>RR (.ref s2.heap.objs.size) HH.objs.size (.error e) s') I3 (hfX H3 fr3) st3 (Y.stop G3 H3 w3);rw[eA]at dn;refine aH dn fun rr s4 ⟨hr,I4⟩=>?_;subst hr;exact fin' I4 w3 hp3 hg3 rs3
 exact codeAny_compStart_list loop (T.self X.A 0 _ _ _ hst₁ loop)
end
def nJ:Res (List D)->Res (List D)
|.ok d=>.ok d
|_=>.stuck
@[simp] theorem noXL_ok(d:List D):nJ (.ok d)=.ok d:=rfl
def cG(nl:Nat)(cap:List Nat)(fi:FI)(ft:FT)(q:FQ)(fe:FE):FE:=fun r=>(fi r).bind fun ds=>(bH (sz ds)).bind fun ds=>(nJ (eZ ft q fe (bf nl cap r) ds)).bind fun vs=>.ok (.lst vs)
section
variable{X:Cx}{g:GE}{m mb:List Md}{scope:MO}{N':List Str}{nl:Nat}{cap:List Nat}{elt tg iter:Expr}{ifs:List Expr}{pos pos' spos:Pos}{fi:FI}{ft:FT}{q:FQ}{fe:FE}{ro:Bool}
theorem zR{r:al}{P:D->Prop}{x:D->Prop}(h:fin (cG nl cap fi ft q fe r) P x):fin (fi r) (fun ds=>∃vs,ds.length<=sizeLine/\eZ ft q fe (bf nl cap r) ds=.ok vs/\P (.lst vs)) x:=by unfold cG at h;refine a9 (aU h) fun ds h1=>?_;obtain⟨ds',e2,h2⟩:=cv (aU h1);obtain⟨rfl,hl⟩:=qG e2;cases e3:eZ ft q fe (bf nl cap r) ds' with
|ok vs=>rw[e3]at h2;exact⟨vs,hl,rfl,h2⟩
|exc x=>rw[e3]at h2;exact h2.elim
|stuck=>rw[e3]at h2;exact h2.elim
theorem CompSc.clo{pz:List (Addr×Obj)}{σ:L2.St}{H:Hp}{s:f_}(sc:CompSc X scope N' nl cap)(ok:X.Ok):∃cl,QR scope X.env=pure cl/\(∀x c,cl.lookup x=some c->X.env.cells.lookup x=some c)/\(∀x,(x,NameKind.free)∈scope.names->∃c,cl.lookup x=some c):=Ij fun y hy hf=>ok.has y.1 (sc.freeK y hy hf)
theorem iA(hN:X.N.Nodup)(hcalm:X.calm=true)(sc:CompSc X scope N' nl cap)(hi:ik X g m tg iter fi)(hg:∀s0 H0 cl C fp g',SG (eY X s0 H0 N' scope cl C fp) g' (aG nl cap m) tg ft (aG nl cap m))(hft:gz ft nl)(hq:∀s0 H0 cl C fp g',kT (eY X s0 H0 N' scope cl C fp) g' (aG nl cap m) ifs q)(he:∀s0 H0 cl C fp g',SE (eY X s0 H0 N' scope cl C fp) g' (aG nl cap m) elt fe)(hs:∀x,Mi iter X.env x=pure x:=by intro _;rfl):SO X g m (.ListComp elt [⟨tg,iter,ifs,0⟩] scope pos) (cG nl cap fi ft q fe):=by intro pz s σ H Q I h;obtain⟨r,G,si,k⟩:=h;obtain⟨cl,hcl,h1,h2⟩:=sc.clo (pz:=pz) (σ:=σ) (H:=H) (s:=s) I.ok;have k1:=zR k;rw[eval_ListComp];refine Om (use:=none) rfl hs hcl sc.kind sc.names (aH (hi pz s σ H (fun J H'=>∃G' ds vs,Grow X.K G H G' H'/\YieldsC X.K J ds G' H'/\ds.length<=sizeLine/\eZ ft q fe (bf nl cap r) ds=.ok vs /\(∀a G' H',Grow X.K G H G' H'->H a=none->Own X.K G' H' a (.lst vs)->Q (.ref a) H')) I ⟨r,G,si,a9 k1 fun ds ⟨vs,z1,z2,z3⟩ J G' H' w y=>⟨G',ds,vs,w,y,z1,z2,z3⟩⟩) fun v s1 hv=>aH hv fun itv s2 hv2=>?_);obtain⟨it,fp,tn,J,H2,rfl,I2,T,st,hf,G2,ds,vs,w2,Y,hsz,hres,hQ⟩:=hv2;refine zO (RR:=fun acc C=>compPost (H_ X.prog X.w) X.A X.xe none (EP X pz σ Q) acc C) hN hcalm sc h1 h2 I2 (si.grow w2) T st hf Y hsz (fun C=>hg _ _ _ _ _ _) hft (fun C=>hq _ _ _ _ _ _) (fun C=>he _ _ _ _ _ _) hres ?_;intro p C s' H' G' I' hns hC1 hC2 hC3 hC4 hC5 w' hp ho;obtain⟨mm,hn⟩:=hns;refine⟨mm,hn,fun h' hsb=>⟨.ref p,H',?_,rfl,hQ p G' H' (w2.trans w') (w2.back hp) ho⟩⟩;exact I'.turned (it:=C) (t':=s'.toks) (fun b o hb e=>hsb.extBut b o hb e) hC1 hC2.symm.symm (.inr hC3) hC4 hC5
theorem i4(i:Nat){y:Str}(hN:X.N.Nodup)(hcalm:X.calm=true)(hy:X.N[i]? = some y)(hyl:X.env.scope.names.lookup y=some .local)(sc:CompSc X scope N' nl cap)(hi:ik X g m tg iter fi)(hg:∀s0 H0 cl C fp g',SG (eY X s0 H0 N' scope cl C fp) g' (aG nl cap m) tg ft (aG nl cap m))(hft:gz ft nl)(hq:∀s0 H0 cl C fp g',kT (eY X s0 H0 N' scope cl C fp) g' (aG nl cap m) ifs q)(he:∀s0 H0 cl C fp g',SE (eY X s0 H0 N' scope cl C fp) g' (aG nl cap m) elt fe)(hsw:Ox (.ListComp elt [⟨tg,iter,ifs,0⟩] scope pos) (some (.Name y pos')) spos.line X.env=pure true:=by rfl)(hs:∀x,Mi iter X.env x=pure x:=by intro _;rfl):SS X g ro mb m (.Assign [.Name y pos'] (.ListComp elt [⟨tg,iter,ifs,0⟩] scope pos) spos) (ao m i (cG nl cap fi ft q fe)) (m.set i .ow):=by
 refine⟨by simp,?_⟩;intro pz s σ H D0 I h;obtain⟨r,G,si,k⟩:=h;obtain⟨cl,hcl,h1,h2⟩:=sc.clo (pz:=pz) (σ:=σ) (H:=H) (s:=s) I.ok;have k1:=zR (fV si (m':=m.set i .ow) (by simp) k);rw[exec_Assign_Name_used _ _ _ _ hsw];refine b_ (Oj (b_ ?_));show C_ _ X.A (do let _ <-comprehension (.ListComp elt [⟨tg,iter,ifs,0⟩] scope pos) scope X.env _ (newList []) false (eval iter X.env) (some (NC (.Name y pos') X.env))) _ _ s;refine b_ (LW (Om (use:=some (NC (.Name y pos') X.env)) (Q:=fun _ s'=>SP X pz D0 .next s') rfl hs hcl sc.kind sc.names (aH (hi pz s σ H (fun J H'=>∃G' ds vs,Grow X.K G H G' H'/\YieldsC X.K J ds G' H'/\ds.length<=sizeLine/\eZ ft q fe (bf nl cap r) ds=.ok vs /\(∀σ' G' H',aI G G'->SI X g (m.set i .ow) (r.set i (some (.lst vs))) G' σ' H'->D0.nx σ' H')) I ⟨r,G,si,a9 k1 fun ds ⟨vs,z1,z2,z3⟩ J G' H' w y=>⟨G',ds,vs,w,y,z1,z2,z3⟩⟩) fun v s1 hv=>aH hv fun itv s2 hv2=>?_)) (fun _ s' hq=>u_ (u_ hq)) fun _ _ e=>e);obtain⟨it,fp,tn,J,H2,rfl,I2,T,st,hf,G2,ds,vs,w2,Y,hsz,hres,hQ⟩:=hv2;refine zO (RR:=fun acc C=>compPost (H_ X.prog X.w) X.A X.xe (some (NC (.Name y pos') X.env)) (fun _ s'=>SP X pz D0 .next s') acc C) hN hcalm sc h1 h2 I2 (si.grow w2) T st hf Y hsz (fun C=>hg _ _ _ _ _ _) hft (fun C=>hq _ _ _ _ _ _) (fun C=>he _ _ _ _ _ _) hres ?_;intro p C s' H' G' I' hns hC1 hC2 hC3 hC4 hC5 w' hp ho;obtain⟨mm,hn⟩:=hns;show C_ _ X.A (NC (.Name y pos') X.env (.ref p)) _ _ s';refine PQ (zL I' hN hy (.inl hyl) (v:=.ref p) rfl (fun s'' I'' ⟨a,hsb,ha⟩=>?_) (.inr hyl));have hCa:C≠a:=by
  rcases ha with z|z
  .rw[z];exact hC2
  .exact(hC4 y a z).symm
 refine⟨mm,hn.sameBut hsb hCa,fun h' hsb'=>?_⟩;refine⟨_,H',I''.turned (it:=C) (t':=s''.toks) (fun b o hb e=>hsb'.extBut b o hb e) hC1 hC2 (.inr hC3) hC4 hC5,?_⟩;exact hQ _ G' H' (w2.trans w').ge (si.setN (w2.trans w') i (w2.back hp) ho)
end
def eO(K:W.Frag)(r:V->List V->Hp->VK->Prop)(mk:D->List D->Option D):Prop:=∀(G:GH)(H:Hp)(a:Addr)(d:D)(vs:List V)(ds:List D)(d':D)(Q:VK),aC K G H->Own K G H a d->ba K G vs ds->mk d ds=some d' ->(∀o',OwnO K G (upd H a o') a d'->Q .non (upd H a o'))->r (.ref a) vs H Q
def qj(T:String):D->Bool
|.lst _=>T == "list"
|.dic _=>T == "dict"
|_=>false
def bS(T:String)(m:List Md)(i:Nat)(fl:al->Res (List D))(mk:D->List D->Option D):FS:=fun r=>match r[i]? with
|some (some d)=>if qj T d=true then fA m r (fl r) fun ds=>(match mk d ds with
 |some d'=>.nx (r.set i (some d'))
 |none=>.stuck)else .stuck
|_=>.stuck
theorem DP{K:W.Frag}{G:GH}{H:Hp}{a:Addr}{d:D}{T:String}(o:Own K G H a d)(t:qj T d=true):lY K T (.ref a) H:=by cases o.ob with
|lst r s=>exact .inl ⟨Mg t,_,aO.of r⟩
|dic r s=>exact .inr (.inr (.inl ⟨Mg t,.inl ⟨_,.inl r⟩⟩))
section
variable{X:Cx}{g:GE}{m mb:List Md}{e a b o:Expr}{es:List Expr}{f fa fb:FE}{fl:al->Res (List D)}{pos pos' apos cpos:Pos}{ro:Bool}{x name:Str}{T id:String}{R:V->List V->Hp->VK->Prop}{mk:D->List D->Option D}
theorem yY(i:Nat)(hm:m[i]? = some .ow)(hk:eO X.K R mk){D0:Ends}{σ:L2.St}{H:Hp}(h:tS X g ro m m mb (bS T m i fl mk) D0 σ H):∃v,σ[i]? = some (some v)/\lY X.K T v H/\tL X g m fl σ H fun xs H2=>R v xs H2 fun _ H1=>D0.nx σ H1:=by obtain⟨r,G,si,k⟩:=h;unfold bS at k;cases er:r[i]? with
|none=>simp only[er]at k;exact(show False from k).elim
|some oo=>cases oo with
 |none=>simp only[er]at k;exact(show False from k).elim
 |some d=>
   simp only[er]at k;by_cases ht:qj T d=true
   .rw[if_pos ht]at k;obtain⟨a,h1,h2,h3⟩:=si.mut hm er;refine⟨_,h1,DP h2 ht,r,G,si,a9 (fV si rfl k) fun ds k2 vs G' H' w rs=>?_⟩;cases em:mk d ds with
   |none=>simp only[em]at k2;exact(show False from k2).elim
   |some d'=>simp only[em]at k2;obtain⟨a',h1',h2',h3'⟩:=(si.grow w).mut hm er;rw[h1]at h1';cases h1';exact hk G' H' a d vs ds d' _ w.ok h2' rs em fun o' ob=>k2 σ G' _ w.ge (h3' o' d' ob)
   .rw[if_neg ht]at k;exact(show False from k).elim
theorem gW(i:Nat)(hm:m[i]? = some .ow)(pa:OQ T)(slot:Slot T name id)(hty:RC (.builtin id)=pure (.type "method_descriptor"))(hmt:fI X id R)(hk:eO X.K R mk)(hN:X.N[i]? = some x)(hv:gw X.env.scope x)(ha:SA X g m (e::es) fl)(hd:(x==("__debug__" : Str))=false:=by decide)(hcd:(x==("__classdict__" : Str))=false:=by decide)(hbase:Mo (.Name x pos') name X.env (eval (.Name x pos') X.env)=eval (.Name x pos') X.env:=by rfl)(hfew:((backTo cpos (m_ (e::es) X.env)).all (fun x=>! x.1)&&(P3 cpos (Oc [] X.env)).all (fun x=>x.1.isSome)&&decide ((e::es).length+([]:List Nu).length+(if ([]:List Nu).isEmpty then 0 else 1)<30))=true:=by rfl)(hline:(apos.endLine==cpos.line)=true:=by rfl)(hst:m_ (e::es) X.env=(false,eval e X.env)::m_ es X.env:=by rfl)(hplain:(backTo cpos (m_ es X.env)).any (·.1)=false:=by rfl):SS X g ro mb m (.Expr (.Call (.Attribute (.Name x pos') name apos) (e::es) [] cpos) pos) (bS T m i fl mk) m:=⟨rfl,PS.imp (yJ (wW pa slot hty hmt (j7 hN hv hd hcd) ha hbase hfew hline hst hplain)) fun D0 σ H h=>yY i hm hk h⟩
theorem Dx(i:Nat)(hm:m[i]? = some .ow)(pa:OQ T)(slot:Slot T name id)(hty:RC (.builtin id)=pure (.type "method_descriptor"))(hmt:fI X id R)(hk:eO X.K R mk)(hN:X.N[i]? = some x)(hv:gw X.env.scope x)(hd:(x==("__debug__" : Str))=false:=by decide)(hcd:(x==("__classdict__" : Str))=false:=by decide)(hbase:Mo (.Name x pos') name X.env (eval (.Name x pos') X.env)=eval (.Name x pos') X.env:=by rfl)(hline:(apos.endLine==cpos.line)=true:=by rfl):SS X g ro mb m (.Expr (.Call (.Attribute (.Name x pos') name apos) [] [] cpos) pos) (bS T m i ae mk) m:=by refine⟨rfl,PS.imp (yJ (xo pa slot hty hmt (j7 hN hv hd hcd) hbase hline)) fun D0 σ H h=>?_⟩;obtain⟨v,h1,h2,r,G,si,k⟩:=yY i hm hk h;exact⟨v,h1,h2,k [] G H (Grow.refl si.gok) .nil⟩
def appD:D->List D->Option D
|.lst ds,[d]=>if ds.length<sizeLine then some (.lst (ds++[d]))else none
|_,_=>none
theorem jZ{K:W.Frag}:eO K yv appD:=by
 intro G H a d vs ds d' Q gk ow rs e q;unfold appD at e;split at e
 .split at e
  .rename_i hl;cases e;cases ow.ob with
  |lst r s=>cases rs with
   |cons r1 t=>cases t;have:=Paired.length s;exact⟨a,_,_,rfl,rfl,r,by omega,q _ (.lst bO (Paired.snoc s r1))⟩
  .cases e
 .cases e
def clrD:D->List D->Option D
|.lst _,[]=>some (.lst [])
|_,_=>none
theorem Dt{K:W.Frag}:eO K xw clrD:=by
 intro G H a d vs ds d' Q gk ow rs e q;unfold clrD at e;split at e
 .cases e;cases ow.ob with
 |lst r s=>cases rs;exact⟨a,_,rfl,rfl,r,q _ (.lst bO .nil)⟩
 .cases e
theorem Paired.rev{α β:Type}{F:α->β->Prop}:∀{l:List α}{r:List β},Paired F l r->Paired F l.reverse r.reverse
|_,_,.nil=>.nil
|_,_,.cons h t=>by rw[Nh,Nh];exact Paired.snoc (Paired.rev t) h
def qE(x:Int)(n:Nat):Nat:=if x<0 then(x+(n:Int)).toNat else min x.toNat n
def bK{α:Type}(xs:List α)(x:Int)(y:α):List α:=xs.take (qE x xs.length)++y::xs.drop (qE x xs.length)
def yy:V->List V->Hp->VK->Prop:=fun x vs H Q=>∃l xs i y,x=.ref l/\vs=[.int i,y]/\H l=some (.lst xs)/\-(2^63)<=i/\i<2^63/\xs.length<sizeLine/\Q .non (upd H l (.lst (bK xs i y)))
theorem z6:fI X "list.insert" yy:=by
 intro pz s σ H x vs v us Q I rx rv h;obtain⟨l,xs,i,y,rfl,rfl,hH,h1,h2,hz,q⟩:=h;cases rx;obtain⟨u,w',rfl,⟨t,rfl⟩,ry⟩:=wX rv;obtain⟨z,its,n,r,hl,e⟩:=I.lstM hH;have hfit:¬(! QS i)=true:=by rw[fitsIndex_both h1 h2];exact i_
 refine NY M4 ⟨_,e,rfl⟩ PySem.F.entry_list_insert (PySem.F.args_list_insert_3 _ _ _) (AutoListH.list_insert_list_int_val_1 l its.toArray n i t w' hfit (by rw[n_];omega)) ⟨e,?_⟩;refine⟨.non,_,I.lset (its':=bK its i w') hH e ?_ ?_ ?_,rfl,q⟩
 .show((its.toArray.extract 0 (if i<0 then(i+((its.toArray.size:Nat):Int)).toNat else min i.toNat its.toArray.size)).push w'++its.toArray.extract (if i<0 then(i+((its.toArray.size:Nat):Int)).toNat else min i.toNat its.toArray.size))=(bK its i w').toArray;rw[n_];unfold bK qE;generalize(if i<0 then(i+((its.length:Nat):Int)).toNat else min i.toNat its.length)=k;apply R1;simp;exact Nl (by rw[KR];exact q_ _)
 .unfold bK;rw[hl];exact ak.append (r.take _) (.cons ry (r.drop _))
 .unfold bK;rw[I_,L5,K5,KR];omega
def insD:D->List D->Option D
|.lst ds,[.int i,d]=>if ds.length<sizeLine/\-(2^63)<=i/\i<2^63 then some (.lst (bK ds i d))else none
|_,_=>none
theorem Dj{α β:Type}{F:α->β->Prop}{l:List α}{r:List β}{x:α}{y:β}(h:Paired F l r)(i:Int)(hxy:F x y):Paired F (bK l i x) (bK r i y):=by unfold bK;rw[Paired.length h];exact Paired.app (Paired.tk _ h) (.cons hxy (Paired.dr _ h))
theorem xM{K:W.Frag}:eO K yy insD:=by
 intro G H a d vs ds d' Q gk ow rs e q;unfold insD at e;split at e
 .split at e
  .rename_i hl;cases e;cases ow.ob with
  |lst r s=>cases rs with
   |cons r1 t=>cases t with
    |cons r2 t=>cases t;have:=Paired.length s;exact⟨a,_,_,_,rfl,by rw[r1.int gk],r,hl.2.1,hl.2.2,by omega,q _ (.lst bO (Dj s _ r2))⟩
  .cases e
 .cases e
end
def ce:D->Bool
|.non=>true
|.bl _=>true
|.int _=>true
|.str _=>true
|_=>false
def d4:D->V
|.non=>.non
|.bl b=>.bl b
|.int i=>.int i
|.str x=>.str x
|_=>.non
def dz(a b:D):Bool:=gr (d4 a) (d4 b)
@[simp] theorem eqs_int(a b:Int):dz (.int a) (.int b)=(a==b):=rfl
@[simp] theorem eqs_str(a b:Str):dz (.str a) (.str b)=(a==b):=rfl
@[simp] theorem eqs_non_int(b:Int):dz .non (.int b)=false:=rfl
@[simp] theorem eqs_int_non(b:Int):dz (.int b) .non=false:=rfl
section
variable{K:W.Frag}{G:GH}{H:Hp}{v:V}{d:D}
theorem RB.flat(h:RB K G H v d)(gk:aC K G H)(hf:ce d=true):v=d4 d/\dX v=true:=by cases d with
|non=>rw[h.non gk];exact⟨rfl,rfl⟩
|bl b=>rw[h.bl gk];exact⟨rfl,rfl⟩
|int i=>rw[h.int gk];exact⟨rfl,rfl⟩
|str x=>rw[h.str gk];exact⟨rfl,rfl⟩
|_=>cases hf
theorem wz{xs:List V}{ds:List D}(h:ba K G xs ds)(gk:aC K G H)(hf:ds.all ce=true):xs=ds.map d4/\xs.all dX=true:=by induction h with
|nil=>exact⟨rfl,rfl⟩
|cons r t ih=>rw[Mn,Kt]at hf;obtain⟨e1,e2⟩:=RB.flat (H:=H) r.rb gk hf.1;obtain⟨e3,e4⟩:=ih hf.2;exact⟨by rw[B_,<-e3,<-e1],by rw[Mn,e2,e4];rfl⟩
end
def dP:D->Option au
|.int i=>some (.inl i)
|.str x=>some (.inr x)
|_=>none
def cX(kvs:List (au×D))(k:au):Bool:=kvs.any fun kv=>decide (kv.1=k)
def bu(kvs:List (au×D))(k:au):Option D:=(kvs.find? fun kv=>decide (kv.1=k)).map (·.2)
def gO(x c:D):Option Bool:=match c with
|.lst ds=>if ce x=true/\ds.all ce=true then some (ds.any fun y=>dz y x)else none
|.tup ds=>if ce x=true/\ds.all ce=true then some (ds.any fun y=>dz y x)else none
|.dic kvs=>(dP x).map (cX kvs)
|.str y=>match x with
 |.str z=>some (!(LS y z 0 y.length 1).isEmpty)
 |_=>none
|_=>none
def iH(x c:D):Option D:=(gO x c).map .bl
def cB(x c:D):Option D:=(gO x c).map fun b=>.bl (! b)
theorem w9{K:W.Frag}{G:GH}{k:au}{ps:List (au×V)}{kvs:List (au×D)}(h:dE K G ps kvs)(d:D)(e:bu kvs k=some d):∃v,cj ps k=some v/\RG K G v d:=by induction h with
|nil=>cases e
|@cons p q ps kvs r t ih=>
  obtain⟨k1,v1⟩:=p;obtain⟨k2,d2⟩:=q;obtain⟨e1,r1⟩:=r;have e1':k1=k2:=e1;subst e1';by_cases hk:k1=k
  .subst hk;have:d2=d:=by simpa[bu,KB]using e
   subst this;exact⟨v1,pc rfl,r1⟩
  .have e':bu kvs k=some d:=by simpa[bu,KB,hk]using e
   obtain⟨v,h1,h2⟩:=ih e';exact⟨v,by rw[mX hk];exact h1,h2⟩
theorem HK{K:W.Frag}{G:GH}{k:au}{ps:List (au×V)}{kvs:List (au×D)}(h:dE K G ps kvs)(e:bu kvs k=none):cj ps k=none:=by induction h with
|nil=>rfl
|@cons p q ps kvs r t ih=>
  obtain⟨k1,v1⟩:=p;obtain⟨k2,d2⟩:=q;obtain⟨e1,r1⟩:=r;have e1':k1=k2:=e1;subst e1';by_cases hk:k1=k
  .subst hk;simp[bu,KB]at e
  .have e':bu kvs k=none:=by simpa[bu,KB,hk]using e
   rw[mX hk];exact ih e'
theorem Di(kvs:List (au×D))(k:au):cX kvs k=(bu kvs k).isSome:=by induction kvs with
|nil=>rfl
|cons p r ih=>
  by_cases e:p.1=k
  .simp[cX,bu,KB,e]
  .have h1:cX (p::r) k=cX r k:=by simp[cX,e]
   have h2:bu (p::r) k=bu r k:=by simp[bu,KB,e]
   rw[h1,h2,ih]
theorem qT{K:W.Frag}{G:GH}{H:Hp}{v:V}{d:D}{k:au}(gk:aC K G H)(h:RB K G H v d)(e:dP d=some k):v=kV k:=by cases d with
|int i=>cases e;exact h.int gk
|str x=>cases e;exact h.str gk
|_=>cases e
section
variable{X:Cx}{g:GE}{m mb:List Md}{e a b o c:Expr}{f fa fb fc:FE}{pos pos':Pos}
def kB(neg:Bool):R2:=fun y x H Q=>∃a o,x=.ref a/\dB H a y o/\Q (.bl (if neg then ! o.isSome else o.isSome)) H
theorem C5(hu:X.A.units+1<Mq):aT X (KQ .In) (kB false):=by intro pz s σ H y x u v Q I ry rx h;obtain⟨a,oo,rfl,hg,q⟩:=h;cases rx;exact vU hu I hg ry fun s' I'=>⟨.bl _,H,I',rfl,q⟩
theorem FJ(hu:X.A.units+1<Mq):aT X (KQ .NotIn) (kB true):=by intro pz s σ H y x u v Q I ry rx h;obtain⟨a,oo,rfl,hg,q⟩:=h;cases rx;exact EU hu I hg ry fun s' I'=>⟨.bl _,H,I',rfl,q⟩
def gl(K:W.Frag)(neg:Bool):R2:=fun x y H Q=>vK K neg x y H Q\/kB neg x y H Q\/∃i j,x=.str i/\y=.str j/\Q (.bl (if neg then !(!(LS j i 0 j.length 1).isEmpty)else !(LS j i 0 j.length 1).isEmpty)) H
theorem C4(hu:X.A.units+1<Mq):aT X (KQ .In) (gl X.K false):=aT.or HI (aT.or (C5 hu) HJ)
theorem EH(hu:X.A.units+1<Mq):aT X (KQ .NotIn) (gl X.K true):=aT.or JC (aT.or (FJ hu) JD)
theorem yj{K:W.Frag}(neg:Bool):cN K (gl K neg) (fun x c=>(gO x c).map fun b=>.bl (if neg then ! b else b)):=by
 intro G H v1 v2 d1 d2 d Q gk r1 r2 e q;have seq:∀{xs:List V}{ds:List D}{p:Addr},ba K G xs ds->v2=.ref p->(aO K H p xs\/bF K H p xs)->ce d1=true->ds.all ce=true->d=.bl (if neg then !(ds.any fun y=>dz y d1)else ds.any fun y=>dz y d1)->gl K neg v1 v2 H Q:=fun{xs ds p} rs e2 hs hf hfs ed=>by
  obtain⟨e1,f1⟩:=RB.flat r1 gk hf;obtain⟨e3,f3⟩:=wz rs gk hfs;refine .inl ⟨p,xs,e2,hs,f1,f3,q _ G H (Grow.refl gk) ?_⟩;have:qq v1 xs=ds.any fun y=>dz y d1:=by unfold qq;rw[e3,OU,e1];rfl
  rw[this,ed];exact .scl (.bl _)
 cases d2 with
|lst ds=>
  by_cases hc:ce d1=true/\ds.all ce=true
  .simp only[gO,if_pos hc,MD]at e;obtain⟨p,xs,e2,hs,rs⟩:=r2.lst gk;exact seq rs e2 (.inl hs) hc.1 hc.2 (G_ e).symm
  .simp only[gO,if_neg hc,Qw]at e;cases e
|tup ds=>
  by_cases hc:ce d1=true/\ds.all ce=true
  .simp only[gO,if_pos hc,MD]at e;obtain⟨p,xs,e2,hs,rs⟩:=r2.tup gk;exact seq rs e2 (.inr hs) hc.1 hc.2 (G_ e).symm
  .simp only[gO,if_neg hc,Qw]at e;cases e
|dic kvs=>simp only[gO]at e;cases ek:dP d1 with
 |none=>rw[ek]at e;cases e
 |some k=>
   rw[ek]at e;cases e;obtain⟨p,ps,rfl,hs,rs⟩:=r2.dic gk;refine .inr (.inl ⟨p,cj ps k,rfl,by rw[qT gk r1 ek];exact .inl ⟨ps,k,hs,rfl,rfl⟩,q _ G H (Grow.refl gk) ?_⟩);have:(cj ps k).isSome=cX kvs k:=by rw[Di];cases eg:bu kvs k with
   |none=>rw[HK rs eg];rfl
   |some d=>obtain⟨v,h1,_⟩:=w9 rs d eg;rw[h1];rfl
   rw[this];exact .scl (.bl _)
|str y=>cases d1 with
 |str z=>cases e;exact .inr (.inr ⟨z,y,r1.str gk,r2.str gk,q _ G H (Grow.refl gk) (.scl (.bl _))⟩)
 |_=>cases e
|_=>cases e
theorem B4{K:W.Frag}:cN K (gl K false) iH:=by
 have h:=yj (K:=K) false;have e:(fun x c=>(gO x c).map fun b=>D.bl (if false=true then ! b else b))=iH:=by funext x c;unfold iH;cases gO x c <;> rfl
 rw[e]at h;exact h
theorem CY{K:W.Frag}:cN K (gl K true) cB:=by
 have h:=yj (K:=K) true;have e:(fun x c=>(gO x c).map fun b=>D.bl (if true=true then ! b else b))=cB:=by funext x c;unfold cB;cases gO x c <;> rfl
 rw[e]at h;exact h
theorem nC(hu:X.A.units+1<Mq)(ha:SB X g m a fa)(hb:SB X g m b fb)(hm:Ml .In b=false:=by rfl):SQ X g m (.Compare a [.In] [b] pos) (aN (f2 fa fb iH)):=jq (C4 hu) B4 ha hb hm
theorem jM(hu:X.A.units+1<Mq)(ha:SB X g m a fa)(hb:SB X g m b fb)(hm:Ml .NotIn b=false:=by rfl):SQ X g m (.Compare a [.NotIn] [b] pos) (aN (f2 fa fb cB)):=jq (EH hu) CY ha hb hm
def iG:D->D->Option D
|.non,.non=>some (.bl true)
|_,.non=>some (.bl false)
|_,_=>none
def fF:D->D->Option D
|.non,.non=>some (.bl false)
|_,.non=>some (.bl true)
|_,_=>none
theorem RB.isnon{K:W.Frag}{G:GH}{H:Hp}{v:V}{d:D}(gk:aC K G H)(h:RB K G H v d):(v=.non↔d=.non):=by
 constructor
 .intro e;subst e;rcases h with h|⟨a,e,_⟩
  .cases h with
  |scl s=>cases s;rfl
  .cases e
 .intro e;subst e;exact h.non gk
theorem B5{K:W.Frag}:cN K (fun x y H Q=>y=.non/\Q (.bl (decide (x=.non))) H) iG:=by intro G H v1 v2 d1 d2 d Q gk r1 r2 e q;have hn:=r1.isnon gk;cases d2 with
|non=>refine⟨r2.non gk,q _ G H (Grow.refl gk) ?_⟩;cases d1 with
 |non=>cases e;rw[decide_eq_true (hn.mpr rfl)];exact .scl (.bl _)
 |_=>cases e;rw[decide_eq_false (fun z=>by have:=hn.mp z;cases this)];exact .scl (.bl _)
|_=>cases d1 <;> cases e
theorem Dl{K:W.Frag}:cN K (fun x y H Q=>y=.non/\Q (.bl (! decide (x=.non))) H) fF:=by intro G H v1 v2 d1 d2 d Q gk r1 r2 e q;have hn:=r1.isnon gk;cases d2 with
|non=>refine⟨r2.non gk,q _ G H (Grow.refl gk) ?_⟩;cases d1 with
 |non=>cases e;rw[decide_eq_true (hn.mpr rfl)];exact .scl (.bl _)
 |_=>cases e;rw[decide_eq_false (fun z=>by have:=hn.mp z;cases this)];exact .scl (.bl _)
|_=>cases d1 <;> cases e
theorem kD(ha:SB X g m a fa)(hb:SB X g m b fb):SQ X g m (.Compare a [.Is] [b] pos) (aN (f2 fa fb iG)):=jq C6 B5 ha hb (j6 _)
theorem Cr(ha:SB X g m a fa)(hb:SB X g m b fb):SQ X g m (.Compare a [.IsNot] [b] pos) (aN (f2 fa fb fF)):=jq FK Dl ha hb (j6 _)
end
end DL
section
namespace DL
open PySem PySem.Spec PyProof.Rows L2
section
variable{X:Cx}{g:GE}{m mb:List Md}{e a b o c:Expr}{f fa fb fc:FE}{pos pos' p1 p2:Pos}{ro:Bool}{x:Str}
def nA:R2:=fun x y H Q=>∃a v,x=.ref a/\dB H a y (some v)/\Q v H
theorem CJ(hu:X.A.units+1<Mq):io X nA:=by intro value slice pz s σ H x y v u Q I rx ry h hs;obtain⟨a,w,rfl,hg,q⟩:=h;cases rx;exact tail_any (Jq I hg) PySem.F.slot_dict_getitem.lookup (HW hu I hg ry fun w' s' I' rw'=>⟨w,H,I',rw',q⟩) hs
def aW:D->D->Option D
|.dic kvs,k=>(dP k).bind (bu kvs)
|c,k=>ixD c k
theorem CI{K:W.Frag}:cN K (fun x y H Q=>nA x y H Q\/vJ K x y H Q) aW:=by intro G H v1 v2 d1 d2 d Q gk r1 r2 e q;cases d1 with
|dic kvs=>obtain⟨a,ps,rfl,hs,rs⟩:=r1.dic gk;have e':(dP d2).bind (bu kvs)=some d:=e;cases ek:dP d2 with
 |none=>rw[ek]at e';cases e'
 |some k=>rw[ek]at e';obtain⟨v,h1,h2⟩:=w9 rs d e';refine .inl ⟨a,v,rfl,?_,q v G H (Grow.refl gk) h2⟩;rw[qT gk r2 ek,<-h1];exact .inl ⟨ps,k,hs,rfl,rfl⟩
|lst ds=>exact .inr (qF G H v1 v2 _ d2 d Q gk r1 r2 e q)
|tup ds=>exact .inr (qF G H v1 v2 _ d2 d Q gk r1 r2 e q)
|str ds=>exact .inr (qF G H v1 v2 _ d2 d Q gk r1 r2 e q)
|_=>cases e
theorem dF(hu:X.A.units+1<Mq)(ha:SB X g m a fa)(hb:SB X g m b fb)(hs:rL b:=by intro _ _;rfl):SE X g m (.Subscript a b pos) (f2 fa fb aW):=qP CI (Cm (io.or (CJ hu) CK) ha hb hs)
theorem mI:SO X g m (.Dict [] [] pos) fun _=>.ok (.dic []):=PE.imp GV fun σ H Q ⟨r,G,si,q⟩ p hp=>q p G _ (Grow.new si.gok hp _) hp ⟨si.gok.isN hp,.dic bO .nil⟩
def cI(kvs:List (au×D))(k:au)(d:D):List (au×D):=if (kvs.any fun kv=>decide (kv.1=k))=true then kvs.map fun kv=>if kv.1=k then(kv.1,d)else kv else kvs++[(k,d)]
theorem Gj{K:W.Frag}{G:GH}{k:au}{ps:List (au×V)}{kvs:List (au×D)}(h:dE K G ps kvs):(ps.any fun kv=>decide (kv.1=k))=kvs.any fun kv=>decide (kv.1=k):=by induction h with
|nil=>rfl
|cons r t ih=>rw[MG,MG,ih,r.1]
theorem wO{K:W.Frag}{G:GH}{ps:List (au×V)}{kvs:List (au×D)}{k:au}{v:V}{d:D}(r:dE K G ps kvs)(h:RG K G v d):dE K G (bJ ps k v) (cI kvs k d):=by
 unfold bJ cI;rw[Gj r];by_cases hc:(kvs.any fun kv=>decide (kv.1=k))=true
 .rw[if_pos hc,if_pos hc];clear hc
  induction r with
 |nil=>exact .nil
 |@cons p q ps kvs r t ih=>
   refine .cons ?_ ih;obtain⟨p1,p2⟩:=p;obtain⟨q1,q2⟩:=q;have e:p1=q1:=r.1;subst e;by_cases hk:p1=k
   .simp only[hk,if_true,true_and];exact h
   .simp only[hk,if_false,true_and];exact r.2
 .rw[if_neg hc,if_neg hc];exact Paired.snoc r ⟨rfl,h⟩
def dL:D->D->D->Option D
|.lst ds,.int k,v=>(fW ds.length k).map fun j=>.lst (ds.set j v)
|.dic kvs,k,v=>(dP k).bind fun k=>if kvs.length<sizeLine then some (.dic (cI kvs k v))else none
|_,_,_=>none
def wS:V->V->V->Hp->(Hp->Prop)->Prop:=fun o i v H Q=>∃p H',o=.ref p/\fK H p i v H'/\Q H'
theorem FH(hu:X.A.units+1<Mq):eN X wS:=by intro pz s σ H o i v ov iv u Q I ro ri rv h;obtain⟨p,H',rfl,hp,q⟩:=h;cases ro;exact HX hu I hp ri rv fun s' I'=>⟨H',I',q⟩
theorem eN.or{t t':jo}(h:eN X t)(h':eN X t'):eN X (fun o i v H Q=>t o i v H Q\/t' o i v H Q):=by
 intro pz s σ H o i v ov iv u Q I ro ri rv q;rcases q with q|q
 .exact h pz s σ H o i v ov iv u Q I ro ri rv q
 .exact h' pz s σ H o i v ov iv u Q I ro ri rv q
theorem DE{K:W.Frag}{G:GH}{H:Hp}{a:Addr}{d k v d':D}{kv vv:V}{Q:Hp->Prop}(gk:aC K G H)(ow:Own K G H a d)(rk:RB K G H kv k)(rv:RG K G vv v)(e:dL d k v=some d')(q:∀o',OwnO K G (upd H a o') a d'->Q (upd H a o')):wT (.ref a) kv vv H Q\/wS (.ref a) kv vv H Q:=by cases ow.ob with
|@lst xs ds r s=>cases k with
 |int k=>have e':(fW ds.length k).map (fun j=>D.lst (ds.set j v))=some d':=e;cases ej:fW ds.length k with
  |none=>rw[ej]at e';cases e'
  |some j=>rw[ej]at e';cases e';exact .inl ⟨a,xs,k,j,rfl,rk.int gk,r,by rw[Paired.length s];exact ej,q _ (.lst bO (Paired.st rv j s))⟩
 |_=>cases e
|@dic ps kvs r s=>have e':(dP k).bind (fun k=>if kvs.length<sizeLine then some (D.dic (cI kvs k v))else none)=some d':=e;cases ek:dP k with
 |none=>rw[ek]at e';cases e'
 |some k'=>
   rw[ek]at e';have e2:(if kvs.length<sizeLine then some (D.dic (cI kvs k' v))else none)=some d':=e';by_cases hl:kvs.length<sizeLine
   .rw[if_pos hl]at e2;cases e2;have:=Paired.length s;refine .inr ⟨a,_,rfl,?_,q _ (.dic bO (wO s rv))⟩;rw[qT gk rk ek];exact fK.k r (by omega)
   .rw[if_neg hl]at e2;cases e2
def putF(m:List Md)(i:Nat)(fk fv:FE):FS:=fun r=>fA m r (fv r) fun v=>match r[i]? with
|some (some d)=>fA m r (fk r) fun k=>(match dL d k v with
 |some d'=>.nx (r.set i (some d'))
 |none=>.stuck)
|_=>.stuck
theorem jQ(i:Nat)(hu:X.A.units+1<Mq)(hm:m[i]? = some .ow)(hN:X.N[i]? = some x)(hv:gw X.env.scope x)(hk:SB X g m b fb)(he:SE X g m e f)(hd:(x==("__debug__" : Str))=false:=by decide)(hcd:(x==("__classdict__" : Str))=false:=by decide)(ha:∀v,NC (.Subscript (.Name x p1) b p2) X.env v=(do
   let ov <-OI [v] (eval (.Name x p1) X.env);let iv <-OI [v,ov] (eval b X.env)
   Rz p2
   OI [v,ov,iv] (Ry ov iv v)
   release [v,ov,iv] []):=by intro _;rfl)(hs:Pt [.Subscript (.Name x p1) b p2] e pos.line X.env=pure false:=by rfl)(hw:Pu [.Subscript (.Name x p1) b p2] e X.env=pure none:=by rfl)(h1:(LB [.Subscript (.Name x p1) b p2] X.env).map (·.2)=[NC (.Subscript (.Name x p1) b p2) X.env]:=by rfl):SS X g ro mb m (.Assign [.Subscript (.Name x p1) b p2] e pos) (putF m i fb f) m:=by refine⟨rfl,PS.imp (xp he (DW (j7 hN hv hd hcd) hk (eN.or Gu (FH hu)) ha) hs hw h1) fun D0 σ H ⟨r,G,si,k⟩=>⟨r,G,si,?_⟩⟩;refine a9 (fV si rfl k) fun v k1 vv G1 H1 w1 rv=>?_;cases er:r[i]? with
|none=>simp only[er]at k1;exact(show False from k1).elim
|some oo=>cases oo with
 |none=>simp only[er]at k1;exact(show False from k1).elim
 |some d=>simp only[er]at k1;obtain⟨a,h1,h2,h3⟩:=(si.grow w1).mut hm er;refine⟨_,h1,r,G1,si.grow w1,?_⟩;refine a9 (fV (m:=m) (si.grow w1) rfl (bZ.gle k1 w1.ge)) fun kk k2 kv G2 H2 w2 rk=>?_;cases es:dL d kk v with
  |none=>simp only[es]at k2;exact(show False from k2).elim
  |some d'=>simp only[es]at k2;obtain⟨a',h1',h2',h3'⟩:=((si.grow w1).grow w2).mut hm er;rw[h1]at h1';cases h1';exact DE w2.ok h2' rk (rv.mono w2.ge) es fun o' ob=>k2 σ G2 _ w2.ge (h3' o' d' ob)
end
mutual
def aV:D->PyData
|.non=>.none
|.bl b=>.bool b
|.int i=>.int i
|.str x=>.str x
|.tup ds=>.tuple (zcd ds)
|.lst ds=>.list (zcd ds)
|.dic _=>.none
|.obj _ _=>.none
def zcd:List D->List PyData
|[]=>[]
|d::ds=>aV d::zcd ds
end
def bM:Nat->D->Prop
|_,.non=>True
|_,.bl _=>True
|_,.int _=>True
|_,.str x=>PyData.strOk x=true
|0,.tup _=>False
|0,.lst _=>False
|k+1,.tup ds=>∀d∈ds,bM k d
|k+1,.lst ds=>∀d∈ds,bM k d
|_,.dic _=>False
|_,.obj _ _=>False
theorem oA{k:Nat}{ds:List D}:bM (k+1) (.lst ds)↔∀d∈ds,bM k d:=by simp only[bM]
theorem lA{k:Nat}{ds:List D}:bM (k+1) (.tup ds)↔∀d∈ds,bM k d:=by simp only[bM]
def kO(a b:D):Bool:=Nr (aV a) (aV b)
section
variable{X:Cx}{pz:List (Addr×Obj)}{σ:L2.St}{H:Hp}{s:f_}{G:GH}
theorem zE{k:Nat}(ih:∀(d:D)(v:V)(u:a_),bM k d->RG X.K G v d->L2.aq v u->∃as,Reads s.heap u (aV d) as)(ds:List D)(vs:List V)(us:List a_)(h:∀d∈ds,bM k d)(r:ba X.K G vs ds)(q:ak vs us):∃as,ReadsAll s.heap us (zcd ds) as:=by induction r generalizing us with
|nil=>cases q;exact⟨[],.nil⟩
|cons r t ih'=>cases q with
 |cons r' t'=>obtain⟨a1,h1⟩:=ih _ _ _ (h _ j_) r r';obtain⟨a2,h2⟩:=ih' _ (fun x hx=>h x (k_ _ hx)) t';exact⟨a1++a2,.cons h1 h2⟩
theorem o8(I:Inv X pz σ H s)(gk:aC X.K G H):∀(k:Nat)(d:D)(v:V)(u:a_),bM k d->RB X.K G H v d->L2.aq v u->∃as,Reads s.heap u (aV d) as:=by
 intro k
 induction k with
|zero=>intro d v u hs r ru;cases d with
 |non=>rw[r.non gk]at ru;cases ru;exact⟨_,.none⟩
 |bl b=>rw[r.bl gk]at ru;cases ru;exact⟨_,.bool b⟩
 |int i=>rw[r.int gk]at ru;obtain⟨t,rfl⟩:=ru;exact⟨_,.int i t⟩
 |str x=>rw[r.str gk]at ru;obtain⟨t,rfl⟩:=ru;exact⟨_,.str x t⟩
 |tup _=>unfold bM at hs;exact hs.elim
 |lst _=>unfold bM at hs;exact hs.elim
 |dic _=>unfold bM at hs;exact hs.elim
 |obj _ _=>unfold bM at hs;exact hs.elim
|succ k ih=>intro d v u hs r ru;cases d with
 |non=>rw[r.non gk]at ru;cases ru;exact⟨_,.none⟩
 |bl b=>rw[r.bl gk]at ru;cases ru;exact⟨_,.bool b⟩
 |int i=>rw[r.int gk]at ru;obtain⟨t,rfl⟩:=ru;exact⟨_,.int i t⟩
 |str x=>rw[r.str gk]at ru;obtain⟨t,rfl⟩:=ru;exact⟨_,.str x t⟩
 |tup ds=>obtain⟨a,xs,rfl,sq,rs⟩:=r.tup gk;cases ru;obtain⟨its,rv,pl,_⟩:=I.tuple sq;obtain⟨o,ho,hc,n,hd⟩:=pl;obtain⟨as,h⟩:=zE (k:=k) (fun d v u h1 h2 h3=>ih d v u h1 h2.rb h3) ds xs its (lA.mp hs) rs rv;refine⟨as,?_⟩;unfold aV;exact .tuple ho hc hd (by simpa using h)
 |lst ds=>obtain⟨a,xs,rfl,sq,rs⟩:=r.lst gk;cases ru;obtain⟨its,rv,pl,_⟩:=I.list sq;obtain⟨o,ho,hc,n,hd⟩:=pl.isList;obtain⟨as,h⟩:=zE (k:=k) (fun d v u h1 h2 h3=>ih d v u h1 h2.rb h3) ds xs its (oA.mp hs) rs rv;refine⟨a::as,?_⟩;unfold aV;exact .list ho hc hd (by simpa using h)
 |dic _=>unfold bM at hs;exact hs.elim
 |obj _ _=>unfold bM at hs;exact hs.elim
theorem rD{k:Nat}(ih:∀d,bM k d->Li (aV d)=true/\LF (aV d)<=k):∀ds:List D,(∀d∈ds,bM k d)->Oe (zcd ds)=true/\O5 (zcd ds)<=k
|[],_=>by unfold zcd Oe O5;exact⟨rfl,KN _⟩
|d::ds,h=>by obtain⟨a1,a2⟩:=ih d (h d j_);obtain⟨b1,b2⟩:=rD ih ds fun x hx=>h x (k_ _ hx);unfold zcd Oe O5;rw[a1,b1];exact⟨rfl,Nat.max_le.mpr ⟨a2,b2⟩⟩
theorem DB:∀(k:Nat)(d:D),bM k d->Li (aV d)=true/\LF (aV d)<=k:=by
 intro k
 induction k with
|zero=>intro d hs;cases d with
 |non=>unfold aV Li LF;exact⟨rfl,KN _⟩
 |bl b=>unfold aV Li LF;exact⟨rfl,KN _⟩
 |int i=>unfold aV Li LF;exact⟨rfl,KN _⟩
 |str x=>unfold bM at hs;unfold aV Li LF;exact⟨hs,KN _⟩
 |tup _=>unfold bM at hs;exact hs.elim
 |lst _=>unfold bM at hs;exact hs.elim
 |dic _=>unfold bM at hs;exact hs.elim
 |obj _ _=>unfold bM at hs;exact hs.elim
|succ k ih=>intro d hs;cases d with
 |non=>unfold aV Li LF;exact⟨rfl,KN _⟩
 |bl b=>unfold aV Li LF;exact⟨rfl,KN _⟩
 |int i=>unfold aV Li LF;exact⟨rfl,KN _⟩
 |str x=>unfold bM at hs;unfold aV Li LF;exact⟨hs,KN _⟩
 |tup ds=>obtain⟨b1,b2⟩:=rD ih ds (lA.mp hs);unfold aV Li LF;exact⟨b1,Qe b2⟩
 |lst ds=>obtain⟨b1,b2⟩:=rD ih ds (oA.mp hs);unfold aV Li LF;exact⟨b1,Qe b2⟩
 |dic _=>unfold bM at hs;exact hs.elim
 |obj _ _=>unfold bM at hs;exact hs.elim
theorem pf{d:D}(h:bM 60 d):RF (aV d)=true:=by obtain⟨a,b⟩:=DB 60 d h;unfold RF;rw[a,decide_eq_true (KF b (by decide))];rfl
end
section
variable{X:Cx}{g:GE}{m mb:List Md}{e a b o c:Expr}{f fa fb fc:FE}{pos pos':Pos}
def lh(a b:D):Bool:=ce a&&ce b&&ja (d4 a) (d4 b)
open Classical in
def eM(a b:D):Option Bool:=if lh a b=true then some (dz a b)else if bM 60 a/\bM 60 b then some (kO a b)else none
def eqD(a b:D):Option D:=(eM a b).map .bl
def neD(a b:D):Option D:=(eM a b).map fun c=>.bl (! c)
theorem zk{a b:D}(h:lh a b=false)(h1:bM 60 a)(h2:bM 60 b):eM a b=some (kO a b):=by unfold eM;rw[if_neg (by rw[h];exact i_),if_pos ⟨h1,h2⟩]
theorem mU{a b:D}(h:lh a b=true):eM a b=some (dz a b):=by unfold eM;rw[if_pos h]
@[simp] theorem eqB_int(a b:Int):eM (.int a) (.int b)=some (a==b):=mU rfl
@[simp] theorem eqB_str(a b:Str):eM (.str a) (.str b)=some (a==b):=mU rfl
@[simp] theorem eqB_non_int(b:Int):eM .non (.int b)=some false:=mU rfl
@[simp] theorem eqB_int_non(b:Int):eM (.int b) .non=some false:=mU rfl
@[simp] theorem eqB_non_non:eM .non .non=some true:=mU rfl
theorem zA{a b:D}(h:ja (d4 a) (d4 b)=true)(fa:ce a=true)(fb:ce b=true):decide (d4 a=d4 b)=dz a b:=by
 cases a <;> cases b <;> first
  |exact absurd (show false=true from fa) i_
  |exact absurd (show false=true from fb) i_
  |exact absurd (show false=true from h) i_
  |exact rN
  |exact qZ
  |exact rO
  |rfl
  |simp[d4,dz,gr]
def oJ(K:W.Frag)(neg:Bool):R2:=fun x y H Q=>∃(G:GH)(d1 d2:D),aC K G H/\RB K G H x d1/\RB K G H y d2/\bM 60 d1/\bM 60 d2/\Q (.bl (if neg then ! kO d1 d2 else kO d1 d2)) H
theorem z7(hu:X.A.units+64<Mq):aT X (KQ .Eq) (oJ X.K false):=by intro pz s σ H x y v u Q I rx ry h;obtain⟨G,d1,d2,gk,r1,r2,s1,s2,q⟩:=h;obtain⟨as,h1⟩:=o8 I gk 60 d1 x v s1 r1 rx;obtain⟨bs,h2⟩:=o8 I gk 60 d2 y u s2 r2 ry;exact SeqAt.compareEq_shaped h1 h2 (pf s1) (pf s2) hu ⟨.bl _,H,I,rfl,q⟩
theorem Iz(hu:X.A.units+64<Mq):aT X (KQ .NotEq) (oJ X.K true):=by intro pz s σ H x y v u Q I rx ry h;obtain⟨G,d1,d2,gk,r1,r2,s1,s2,q⟩:=h;obtain⟨as,h1⟩:=o8 I gk 60 d1 x v s1 r1 rx;obtain⟨bs,h2⟩:=o8 I gk 60 d2 y u s2 r2 ry;exact SeqAt.compareNe_shaped h1 h2 (pf s1) (pf s2) hu ⟨.bl _,H,I,rfl,q⟩
theorem eq_cases{a b:D}{c:Bool}(h:eM a b=some c):(lh a b=true/\c=dz a b)\/(bM 60 a/\bM 60 b/\c=kO a b):=by
 unfold eM at h;split at h
 .rename_i hs;cases h;exact .inl ⟨hs,rfl⟩
 .split at h
  .rename_i hs;cases h;exact .inr ⟨hs.1,hs.2,rfl⟩
  .cases h
theorem wv{K:W.Frag}:cN K (fun x y H Q=>Bs x y H Q\/oJ K false x y H Q) eqD:=by intro G H v1 v2 d1 d2 d Q gk r1 r2 e q;unfold eqD at e;cases ec:eM d1 d2 with
|none=>rw[ec]at e;cases e
|some c=>
  rw[ec]at e;cases e;rcases eq_cases ec with⟨hs,rfl⟩|⟨s1,s2,rfl⟩
  .unfold lh at hs;rw[Kt,Kt]at hs;obtain⟨e1,_⟩:=RB.flat r1 gk hs.1.1;obtain⟨e2,_⟩:=RB.flat r2 gk hs.1.2;refine .inl ⟨by rw[e1,e2];exact hs.2,?_⟩;rw[e1,e2,zA hs.2 hs.1.1 hs.1.2];exact q _ G H (Grow.refl gk) (.scl (.bl _))
  .exact .inr ⟨G,d1,d2,gk,r1,r2,s1,s2,q _ G H (Grow.refl gk) (.scl (.bl _))⟩
theorem Cd{K:W.Frag}:cN K (fun x y H Q=>Br x y H Q\/oJ K true x y H Q) neD:=by intro G H v1 v2 d1 d2 d Q gk r1 r2 e q;unfold neD at e;cases ec:eM d1 d2 with
|none=>rw[ec]at e;cases e
|some c=>
  rw[ec]at e;cases e;rcases eq_cases ec with⟨hs,rfl⟩|⟨s1,s2,rfl⟩
  .unfold lh at hs;rw[Kt,Kt]at hs;obtain⟨e1,_⟩:=RB.flat r1 gk hs.1.1;obtain⟨e2,_⟩:=RB.flat r2 gk hs.1.2;refine .inl ⟨by rw[e1,e2];exact hs.2,?_⟩;rw[e1,e2,zA hs.2 hs.1.1 hs.1.2];exact q _ G H (Grow.refl gk) (.scl (.bl _))
  .exact .inr ⟨G,d1,d2,gk,r1,r2,s1,s2,q _ G H (Grow.refl gk) (.scl (.bl _))⟩
theorem kz(hu:X.A.units+64<Mq)(ha:SB X g m a fa)(hb:SB X g m b fb):SE X g m (.Compare a [.Eq] [b] pos) (f2 fa fb eqD):=Cu (aT.or wq (z7 hu)) wv ha hb (j6 _)
theorem du(hu:X.A.units+64<Mq)(ha:SB X g m a fa)(hb:SB X g m b fb):SQ X g m (.Compare a [.Eq] [b] pos) (aN (f2 fa fb eqD)):=jq (aT.or wq (z7 hu)) wv ha hb (j6 _)
theorem kC(hu:X.A.units+64<Mq)(ha:SB X g m a fa)(hb:SB X g m b fb):SQ X g m (.Compare a [.NotEq] [b] pos) (aN (f2 fa fb neD)):=jq (aT.or Cj (Iz hu)) Cd ha hb (j6 _)
def mB(fa fb fc:FE)(k k':D->D->Option D):FE:=fun r=>(fa r).bind fun x=>(fb r).bind fun y=>(bH (k x y)).bind fun z=>(bH (ig z)).bind fun c=>if c=true then(fc r).bind fun w=>bH (k' y w)else .ok (.bl false)
def qH(K:W.Frag):R2:=fun x y H Q=>∃l b xs zs,x=.ref l/\y=.ref b/\aO K H l xs/\aO K H b zs/\xs.length+zs.length<=sizeLine/\∀p,H p=none->Q (.ref p) (upd H p (.lst (xs++zs)))
theorem yc:aT X (ME .Add) (qH X.K):=by
 intro pz s σ H x y v u Q I rx ry h;obtain⟨l,b,xs,zs,rfl,rfl,hH,hB,hz,q⟩:=h;cases rx;cases ry;obtain⟨its,r,pl,_⟩:=I.list hH;obtain⟨its2,r2,pl2,_⟩:=I.list hB;have l1:=r.length;have l2:=r2.length;obtain⟨⟨cls,dd,data,sl⟩,ho,hc,n,hd⟩:=pl.isList;obtain⟨⟨cls2,dd2,data2,sl2⟩,ho2,hc2,n2,hd2⟩:=pl2.isList;simp only at hc hd hc2 hd2;subst hc hd hc2 hd2;have e:its.toArray++its2.toArray=(its++its2).toArray:=by simp
 refine OK ⟨_,ho,rfl⟩ ⟨_,ho2,rfl⟩ noFill_list_add seq_list_add PySem.F.slot_list_add PySem.F.entry_list_add (PySem.F.args_list_add_2 _ _) (list_addW _ _ its.toArray its2.toArray n n2 dd dd2 sl sl2 (by simp;omega)) ⟨ho,ho2,?_⟩;rw[e];exact⟨.ref _,_,I.lnew (t':=s.toks) (r.append r2) (by rw[I_];omega),rfl,q _ I.fresh⟩
def addA:D->D->Option D
|.int a,.int b=>some (.int (a+b))
|.str a,.str b=>if a.length+b.length<=sizeLine then some (.str (a++b))else none
|.lst a,.lst b=>if a.length+b.length<=sizeLine then some (.lst (a++b))else none
|.tup (x::a),.tup b=>if (x::a).length+b.length<=sizeLine then some (.tup (x::a++b))else none
|_,_=>none
theorem xS{K:W.Frag}:cN K (fun x y H Q=>(∃i j,x=.int i/\y=.int j/\Q (.int (i+j)) H)\/(∃i j,x=.str i/\y=.str j/\i.length+j.length<=sizeLine/\Q (.str (i++j)) H)\/qH K x y H Q\/qI K x y H Q) addA:=by
 intro G H v1 v2 d1 d2 d Q gk r1 r2 e q;unfold addA at e;split at e
 .cases e;exact .inl ⟨_,_,r1.int gk,r2.int gk,q _ G H (Grow.refl gk) (.scl (.int _))⟩
 .split at e
  .rename_i hl;cases e;exact .inr (.inl ⟨_,_,r1.str gk,r2.str gk,hl,q _ G H (Grow.refl gk) (.scl (.str _))⟩)
  .cases e
 .split at e
  .rename_i hl;cases e;obtain⟨a,xs,rfl,s1,t1⟩:=r1.lst gk;obtain⟨b,ys,rfl,s2,t2⟩:=r2.lst gk;have l1:=Paired.length t1;have l2:=Paired.length t2;exact .inr (.inr (.inl ⟨a,b,xs,ys,rfl,rfl,s1,s2,by omega,fun p hp=>q _ _ _ (Grow.newF gk hp (.lst (.inl bO) (Paired.app t1 t2))) (.ref dh)⟩))
  .cases e
 .split at e
  .rename_i x0 a0 b0 hl;cases e;rcases r1 with r1|⟨a',_,oo⟩
   .obtain⟨a,xs,rfl,s1,t1⟩:=r1.tup gk;obtain⟨b,ys,rfl,s2,t2⟩:=r2.tup gk;have l1:=Paired.length t1;have l2:=Paired.length t2;refine .inr (.inr (.inr ⟨a,b,xs,ys,rfl,rfl,s1,s2,?_,by omega,fun hy=>?_,fun _ p hp=>q _ _ _ (Grow.newF gk hp (.tup (.inl bO) (Paired.app t1 t2))) (.ref dh)⟩))
    .rintro rfl
     cases t1
    .subst hy;cases t2;refine q _ G H (Grow.refl gk) ?_;rw[KA];exact r1
   .cases oo.ob
  .cases e
 .cases e
theorem gY(ha:SB X g m a fa)(hb:SB X g m b fb):SE X g m (.BinOp a .Add b pos) (f2 fa fb addA):=jO (aT.or xP (aT.or AM (aT.or yc yd))) xS ha hb
end
end DL
end
namespace DL
open PySem PySem.Spec PyProof.Rows L2
structure DefAt(K:W.Frag)(mg:Str->Option a_)(x:Str)(st:Stmt):Prop where
 ex:∃f fd,mg x=some (.ref f)/\Fun K x x st f fd
structure Callee(P:E_)(w:Kz)(K:W.Frag)(mg:Str->Option a_)(base:Heap)(x:Str)(ps:List Str)(ds:List a_)(k:Nat)(ro:Bool)(ms:List Md)(F:List D->Res D):Prop where
 ex:∃f fd,mg x=some (.ref f)/\W.keepIn K (.ref f)=true/\gE K fd ps ds/\FnOk P w K mg base bQ k f fd ps (g9 K ro ms F)
section
variable{P:E_}{w:Kz}{K:W.Frag}{mg:Str->Option a_}{base:Heap}
theorem CV{x:Str}{st:Stmt}{N ps:List Str}{k:Nat}{ro:Bool}{ms:List Md}{fs:FS}{m':List Md}(A:DefAt K mg x st)(S:FnScope N ps (aw st))(hms:ms.length=ps.length)(hb:∀(kV doc pm:a_)(an:Option Addr)(cdv ct:a_)(us:List a_),us.length=ps.length->Pd (W.fnOf x x (gJ st) (en st) (aw st) .none kV doc pm an cdv ct) ⟨us,[]⟩=pure (ps.zip us))(hbody:∀(f:Addr)(cdv:a_)(A:KM)(outer:List Env)(s:f_)(H:Hp)(g:GE)(E:XK),Room k (A.deeper (Np x (aw st) s.heap.objs.size f cdv)) ->fH (aS bQ P w K mg base N x (aw st) f cdv A outer s H E).nox g ro [] (iV N.length ms) (en st) fs m'):Callee P w K mg base x ps [] (k+1) ro ms fun ds=>aD ro (fs (bh N.length ds)):=by obtain⟨f,fd,h1,F⟩:=A.ex;exact⟨f,fd,h1,F.kp,F.binds hb,xc F S hms (hbody f)⟩
structure DefAtD(K:W.Frag)(mg:Str->Option a_)(x:Str)(st:Stmt)(dds:List a_):Prop where
 ex:∃(f T:Addr)(o:Obj)(n:Nat)(oc:a_)(od:Option Addr)(kV doc pm:a_)(an:Option Addr)(cdv ct:a_)(osl:Array (Option a_)),mg x=some (.ref f)/\K.lookup T=some o/\o.data=.seq dds.toArray n/\K.lookup f=some ⟨oc,od,.func (W.fnOf x x (gJ st) (en st) (aw st) (.ref T) kV doc pm an cdv ct),osl⟩/\W.codeIn K cdv x=true/\W.keepIn K (.ref f)=true
theorem mP{x:Str}{st:Stmt}{N ps:List Str}{k:Nat}{ro:Bool}{ms:List Md}{fs:FS}{m':List Md}{dds ds:List a_}(A:DefAtD K mg x st dds)(S:FnScope N ps (aw st))(hms:ms.length=ps.length)(nn:Nat)(hn:nn+ds.length=ps.length)(hb:∀(T:Addr)(kV doc pm:a_)(an:Option Addr)(cdv ct:a_)(us:List a_),us.length=nn->∃kk:Option (Array a_)->Sem (List (Str×a_)),Pd (W.fnOf x x (gJ st) (en st) (aw st) (.ref T) kV doc pm an cdv ct) ⟨us,[]⟩=Rv (.ref T) >>= kk/\kk (some dds.toArray)=pure (ps.zip (us++ds)))(hbody:∀(f:Addr)(cdv:a_)(A:KM)(outer:List Env)(s:f_)(H:Hp)(g:GE)(E:XK),Room k (A.deeper (Np x (aw st) s.heap.objs.size f cdv)) ->fH (aS bQ P w K mg base N x (aw st) f cdv A outer s H E).nox g ro [] (iV N.length ms) (en st) fs m'):Callee P w K mg base x ps ds (k+1) ro ms fun zs=>aD ro (fs (bh N.length zs)):=by
 obtain⟨f,T,o,n,oc,od,kV,doc,pm,an,cdv,ct,osl,h1,hT,hd,lk,hcd,kp⟩:=A.ex;refine⟨f,W.fnOf x x (gJ st) (en st) (aw st) (.ref T) kV doc pm an cdv ct,h1,kp,fun s us KX hl=>?_,?_⟩
 .obtain⟨kk,e1,e2⟩:=hb T kV doc pm an cdv ct us (by rw[I_]at hl;omega);exact BindsTo.of_defaults rfl (KX _ _ hT) hd e1 e2
 .have hpl:ps.length<=N.length:=by have:=congrArg Qp S.pre;rw[K5]at this;omega
  refine wA lk hcd S (fun vs H Q E ⟨G,ds,gk,rs,q⟩=>rs.len.1.trans hms) fun A outer s H vs Q E hr ⟨G,ds,gk,rs,q⟩=>?_;exact⟨_,(hbody f cdv A outer s H ⟨G,H,fun _=>none⟩ E hr).2.nox,bh N.length ds,G,zB gk rs (by omega),zg q⟩
end
section
variable{X:Cx}{g:GE}{m:List Md}{e:Expr}{es:List Expr}{fl:al->Res (List D)}{k:Nat}{ps:List Str}{F:List D->Res D}{dvs:List V}{ds:List a_}{dds:List D}{x:Str}{p pos:Pos}{i:Nat}{ms ms':List Md}
theorem B3(c:Callee X.prog X.w X.K X.mg X.base x ps ds k false ms' F)(hr:Room k X.A)(ha:gR X g m (e::es) ms fl)(hms:ms'=ms++K2 dds.length .sh:=by rfl)(hg:Gl X x:=by rfl)(hd:ak dvs ds:=by exact .nil)(hsc:Paired Scl dvs dds:=by exact .nil)(hdb:(x==("__debug__" : Str))=false:=by decide)(he:m_ (e::es) X.env=(false,eval e X.env)::m_ es X.env:=by rfl)(hpl:(backTo pos (m_ es X.env)).any (·.1)=false:=by rfl):SE X g m (.Call (.Name x p) (e::es) [] pos) (az fl dds F):=by subst hms;obtain⟨f,fd,h1,h2,h3,h4⟩:=c.ex;exact Ec h4 hr hg h1 h2 h3 hd hsc ha hdb he hpl
theorem EO(c:Callee X.prog X.w X.K X.mg X.base x ps ds k true ms' F)(hr:Room k X.A)(ha:gR X g m (e::es) ms fl)(hms:ms'=ms++K2 dds.length .sh:=by rfl)(hg:Gl X x:=by rfl)(hd:ak dvs ds:=by exact .nil)(hsc:Paired Scl dvs dds:=by exact .nil)(hdb:(x==("__debug__" : Str))=false:=by decide)(he:m_ (e::es) X.env=(false,eval e X.env)::m_ es X.env:=by rfl)(hpl:(backTo pos (m_ es X.env)).any (·.1)=false:=by rfl):SE X g m (.Call (.Name x p) (e::es) [] pos) (az fl dds F):=by subst hms;obtain⟨f,fd,h1,h2,h3,h4⟩:=c.ex;exact FF h4 hr hg h1 h2 h3 hd hsc ha hdb he hpl
theorem ET(c:Callee X.prog X.w X.K X.mg X.base x ps ds k true ms' F)(hr:Room k X.A)(ha:gR X g m (e::es) ms fl)(hms:ms'=ms++K2 dds.length .sh:=by rfl)(hg:Gl X x:=by rfl)(hd:ak dvs ds:=by exact .nil)(hsc:Paired Scl dvs dds:=by exact .nil)(hdb:(x==("__debug__" : Str))=false:=by decide)(he:m_ (e::es) X.env=(false,eval e X.env)::m_ es X.env:=by rfl)(hpl:(backTo pos (m_ es X.env)).any (·.1)=false:=by rfl):SO X g m (.Call (.Name x p) (e::es) [] pos) (ic (az fl dds F)):=by subst hms;obtain⟨f,fd,h1,h2,h3,h4⟩:=c.ex;exact CZ h4 hr hg h1 h2 h3 hd hsc ha hdb he hpl
theorem v_(i:Nat)(hm:m[i]? = some .sh:=by rfl)(hN:X.N[i]? = some x:=by rfl)(hv:gw X.env.scope x:=by first|exact Or.inl rfl|exact Or.inr (Or.inl rfl)|exact Or.inr (Or.inr rfl))(hd:(x==("__debug__" : Str))=false:=by decide)(hcd:(x==("__classdict__" : Str))=false:=by decide):SE X g m (.Name x p) fun r=>cY r i:=BM i hm hN hv hd hcd
theorem af(i:Nat)(hm:i<m.length:=by decide)(hN:X.N[i]? = some x:=by rfl)(hv:gw X.env.scope x:=by first|exact Or.inl rfl|exact Or.inr (Or.inl rfl)|exact Or.inr (Or.inr rfl))(hd:(x==("__debug__" : Str))=false:=by decide)(hcd:(x==("__classdict__" : Str))=false:=by decide):SB X g m (.Name x p) fun r=>cY r i:=DA i hm hN hv hd hcd
end
def yq(osc:MO)(ON:List Str)(sc:MO)(N':List Str)(nl:Nat)(cap:List Nat):Bool:=decide (sc.kind=.function)&&sc.names.all (fun y=>decide (y.2≠.cell))&&sc.names.all (fun y=>decide (y.2≠.local) || decide (sc.names.lookup y.1=some .local)) &&
 sc.names.all (fun y=>decide (y.2≠.free) || (decide (osc.names.lookup y.1=some .cell) || decide (osc.names.lookup y.1=some .free)))&&decide (N'.length=nl+cap.length) &&
 (h_ cap.length).all fun j=>match N'[nl+j]?,ON[cap.getD j 0]? with
 |some x,some y=>decide (x=y)&&decide (sc.names.lookup x=some .free)
 |_,_=>false
theorem dI{X:Cx}{osc:MO}{ON:List Str}{sc:MO}{N':List Str}{nl:Nat}{cap:List Nat}(h1:X.env.scope=osc)(h2:X.N=ON)(h:yq osc ON sc N' nl cap=true):CompSc X sc N' nl cap:=by subst h1 h2;unfold yq at h;simp only[Kt,LO,decide_eq_true_eq,Bool.or_eq_true]at h;obtain⟨⟨⟨⟨⟨a1,a2⟩,a3⟩,a4⟩,a5⟩,a6⟩:=h;refine⟨a1,a2,fun y hy hl=>(a3 y hy).resolve_left fun z=>z hl,fun y hy hf=>(a4 y hy).resolve_left fun z=>z hf,a5,fun j hj=>?_⟩;have h6:=a6 j (s_.mpr hj);cases e1:N'[nl+j]? with
|none=>rw[e1]at h6;cases h6
|some x=>cases e2:X.N[cap.getD j 0]? with
 |none=>rw[e1,e2]at h6;cases h6
 |some y=>rw[e1,e2]at h6;simp only[Kt,decide_eq_true_eq]at h6;exact⟨x,rfl,by rw[h6.1],h6.2⟩
section
variable{X:Cx}{g:GE}{m mb:List Md}{e a b c:Expr}{f fa fb fc:FE}{pos pos':Pos}
theorem Ih{R R':R2}{k k':D->D->Option D}(ho:cN X.K R k)(ho':cN X.K R' k'){σ:L2.St}{H:Hp}{Q:VK}(h:tE X g m (mB fa fb fc k k') σ H Q):xG R R' (tB X g m fa) (tB X g m fb) (tB X g m fc) σ H Q:=by obtain⟨r,G,si,q⟩:=h;refine i9 si q fun d1 d2 v1 v2 G2 H2 w r1 r2 q2=>?_;obtain⟨z,ez,q3⟩:=cv (aU q2);obtain⟨cc,ec,q4⟩:=cv (aU q3);refine ho G2 H2 v1 v2 d1 d2 z _ w.ok r1 r2 ez fun v G3 H3 w3 rv=>?_;cases z with
|bl b'=>cases ec;refine⟨_,rv.bl w3.ok,?_⟩;cases cc with
 |false=>rw[if_neg i_]at q4 ⊢;exact q4 _ G3 H3 (w.trans w3) (.scl (.bl _))
 |true=>rw[if_pos rfl]at q4 ⊢;refine⟨r,G3,(si.grow w).grow w3,eV (aU q4) (w.trans w3) fun d3 q5 v3 G4 H4 w4 r3=>?_⟩;obtain⟨d,e,q6⟩:=cv q5;exact ho' G4 H4 v2 v3 d2 d3 d Q w4.ok ((r2.mono w3).mono w4) r3 e fun v G' H' w' z=>q6 v G' H' (((w.trans w3).trans w4).trans w') z
|_=>cases ec
theorem Gs{op op':Rp}{R R':R2}{k k':D->D->Option D}(hr:aT X (KQ op) R)(hr':aT X (KQ op') R')(ho:cN X.K R k)(ho':cN X.K R' k')(ha:SB X g m a fa)(hb:SB X g m b fb)(hc:SB X g m c fc)(hm:lastMarks [op,op'] [b,c]=false:=by with_unfolding_all rfl):SE X g m (.Compare a [op,op'] [b,c] pos) (mB fa fb fc k k'):=PE.imp (GU hr hr' ha hb hc hm) fun σ H Q h=>Ih ho ho' h
theorem Cf{K:W.Frag}:cN K (iF fun i j=>V.bl (decide (i<j))) jI:=mQ fun _ _=>.bl _
theorem Ce{K:W.Frag}:cN K (iF fun i j=>V.bl (decide (i<=j))) vO:=mQ fun _ _=>.bl _
end
theorem cP{K:W.Frag}{h:Heap}{mg:Str->Option a_}{x:Str}{st:Stmt}(KX:K.In h)(G:h.Ns Lu mg){f:Addr}{oc:a_}{od an:Option Addr}{osl:Array (Option a_)}{kV doc pm cdv ct:a_}(a:W.nsIn K Lu x=some (some (.ref f)))(l:K.lookup f=some ⟨oc,od,.func (W.fnOf x x (gJ st) (en st) (aw st) .none kV doc pm an cdv ct),osl⟩)(c:W.codeIn K cdv x=true)(k:W.keepIn K (.ref f)=true):DefAt K mg x st:=⟨f,_,W.mg_of KX G a,Da l c k⟩
theorem ma{K:W.Frag}{h:Heap}{mg:Str->Option a_}{x:Str}{st:Stmt}{dds:List a_}(KX:K.In h)(G:h.Ns Lu mg){f T:Addr}{oc tc:a_}{od an td:Option Addr}{osl tsl:Array (Option a_)}{n:Nat}{kV doc pm cdv ct:a_}(a:W.nsIn K Lu x=some (some (.ref f)))(l:K.lookup f=some ⟨oc,od,.func (W.fnOf x x (gJ st) (en st) (aw st) (.ref T) kV doc pm an cdv ct),osl⟩)(t:K.lookup T=some ⟨tc,td,.seq dds.toArray n,tsl⟩)(c:W.codeIn K cdv x=true)(k:W.keepIn K (.ref f)=true):DefAtD K mg x st dds:=⟨f,T,_,n,oc,od,kV,doc,pm,an,cdv,ct,osl,W.mg_of KX G a,t,rfl,l,c,k⟩
theorem BE{P:E_}{w:Kz}{K:W.Frag}{mg:Str->Option a_}{x p:Str}{st:Stmt}{k:Nat}{F:List D->Res D}{fa:Addr}(hfa:mg x=some (.ref fa))(A:DefAt K mg x st)(hb:∀(kV doc pm:a_)(an:Option Addr)(cdv ct:a_)(us:List a_),us.length=[p].length->Pd (W.fnOf x x (gJ st) (en st) (aw st) .none kV doc pm an cdv ct) ⟨us,[]⟩=pure ([p].zip us))(C:∀(f:Addr)(fd:LK),Fun K x x st f fd->∀base:Heap,FnOk P w K mg base bQ k f fd [p] (g9 K false [.sh] F)):∃fd:LK,(∀(s:f_)(u:a_),Po s fd ⟨[u],[]⟩ [(p,u)])/\∀base:Heap,K.In base->base.Ns Lu mg->FnOk P w K mg base bQ k fa fd [p] (g9 K false [.sh] F):=by obtain⟨f,fd,h1,Fn⟩:=A.ex;rw[hfa]at h1;cases h1;refine⟨fd,fun s u=>?_,fun base _ _=>C fa fd Fn base⟩;obtain⟨oc,od,kV,doc,pm,an,cdv,ct,osl,rfl,lk,hcd⟩:=Fn.ex;exact .of_eq (hb kV doc pm an cdv ct [u] rfl)
theorem BD{l:W.OpenLaw}{k:Nat}{q:E_}{loose:List Str}{XP:(Str->Option a_)->Heap->Prop}{YP:Kz->Heap->Prop}{d:DefRec}{K:Params->W.Frag}{x:Str}{F:List D->Res D}(hn:l.most=some 63)(hdf:d.params.defaults=[])(hr:Room k OS)(hY:∀(w:Kz)(h:Heap),YP w h->(K w.params).In h)(hF:∀ns:List Int,ns.length<=63->F [.lst (ns.map .int)]=.ok (.bl true))(C:∀(w:Kz)(mg:Str->Option a_)(fa:Addr)(h:Heap),(K w.params).In h->h.Ns Lu mg->mg d.name=some (.ref fa) ->∃fd:LK,(∀(s:f_)(u:a_),Po s fd ⟨[u],[]⟩ [(x,u)])/\∀base:Heap,(K w.params).In base->base.Ns Lu mg->FnOk l.prog w (K w.params) mg base bQ k fa fd [x] (g9 (K w.params) false [.sh] F)):W.WalkO q loose XP YP l.row.toRowW d [] (fun f vs=>QN f vs):=by
 refine L2.i7 (n:=63) (k:=k) (x:=x) (CX:=fun _=>bQ) (sp:=fun w=>g9 (K w.params) false [.sh] F) hn (by decide) hdf hr hY C (fun w H a ns hl hO hS=>?_) fun _ _ _ _ _ z=>z;have intsP:∀(l:List Int),Paired Scl (l.map V.int) (l.map D.int):=fun l=>by induction l with
 |nil=>exact .nil
 |cons i l ih=>exact .cons (.int i) ih
 rcases hS with hS|hS
 .refine⟨fun b=>if b=a then some (.lst (ns.map D.int))else none,[.lst (ns.map .int)],fun b d' hb=>?_,.sh (.ref (if_pos rfl)) .nil,?_⟩
  .by_cases e:b=a
   .subst e;have hb':some (D.lst (ns.map D.int))=some d':=(if_pos rfl).symm.trans hb;cases hb';exact .lst hS (Paired.mono (fun _ _ z=>.scl z) (intsP ns))
   .have hb':(none:Option D)=some d':=(if_neg e).symm.trans hb;cases hb'
  .rw[hF ns hl];intro v G' H' w' rv;exact rv.bl w'.ok
 .refine⟨fun _=>none,[.lst (ns.map .int)],fun b d' hb=>(by cases hb),.sh (.kc (.lst (.inr hS) (intsP ns))) .nil,?_⟩;rw[hF ns hl];intro v G' H' w' rv;exact rv.bl w'.ok
section
open AutoSeq1 (wpAny_loadPart')
section
variable{prog:E_}{w:Kz}{A:KM}{E:a_->f_->Prop}{s:f_}
theorem J6{it t:Addr}{i:Nat}{items}{x:a_}{Q:a_->f_->Prop}(hit:s.heap.IsTupleIter it t i)(ht:s.heap.IsTuple t items)(hx:items[i]? = some x)(hQ:∀h',h'.IsTupleIter it t (i+1)->NM it s.heap h'->Q x { s with heap:=h' }):C_ (H_ prog w) A (Ku (.ref it)) Q E s:=by
 obtain⟨o,ho,hc,hd⟩:=id hit;obtain⟨ol,hol,_,nl,hdl⟩:=ht;unfold Ku;refine b_ (K6 (name:=Mj "__next__") hit.typeIs F.slot_tuple_iterator_next
  (Lx F.slot_tuple_iterator_next hit.typeIs F.entry_tuple_iterator_next ?_ (F.args_tuple_iterator_next_1 _)))
 show C_ _ _ (Ph (.ref it) 0 >>= _) _ _ s;refine b_ (K0 ho hd (x:=.ref t) rfl ?_);show C_ _ _ (if (Value.ref t==Value.none)=true then _ else _) _ _ s;rw[if_neg (show ¬ ((Value.ref t==Value.none)=true)from i_)];show C_ _ _ (Ph (.ref it) 1 >>= _) _ _ s;refine b_ (K0 ho hd (x:=.int i 0) rfl ?_);show C_ _ _ (Rv (.ref t) >>= _) _ _ s;refine b_ (Lp hol hdl ?_);simp only[LU,hx];refine b_ (wpAny_setField ho hd (by simp) (u_ ⟨x,rfl,u_ (hQ _ ?_ (NK ..))⟩));exact⟨_,LL _ ho (Obj.isFreed_of_fields (PJ hd _)),(Obj.cls_mapFields ..).trans hc,by rw[PJ hd];simp[NU]⟩
theorem J0{it t:Addr}{i:Nat}{items}{Q:a_->f_->Prop}(hh:A.handled=none)(hit:s.heap.IsTupleIter it t i)(ht:s.heap.IsTuple t items)(hx:items[i]? = none)(hE:∀h' e,RX it s.heap h'->(∃o,h'.get? e=some o/\o.cls=.type "StopIteration")->E (.ref e) { s with heap:=h' }):C_ (H_ prog w) A (Ku (.ref it)) Q E s:=by
 obtain⟨o,ho,hc,hd⟩:=id hit;obtain⟨ol,hol,_,nl,hdl⟩:=ht;unfold Ku;refine b_ (K6 (name:=Mj "__next__") hit.typeIs F.slot_tuple_iterator_next
  (Lx F.slot_tuple_iterator_next hit.typeIs F.entry_tuple_iterator_next ?_ (F.args_tuple_iterator_next_1 _)))
 show C_ _ _ (Ph (.ref it) 0 >>= _) _ _ s;refine b_ (K0 ho hd (x:=.ref t) rfl ?_);show C_ _ _ (if (Value.ref t==Value.none)=true then _ else _) _ _ s;rw[if_neg (show ¬ ((Value.ref t==Value.none)=true)from i_)];show C_ _ _ (Ph (.ref it) 1 >>= _) _ _ s;refine b_ (K0 ho hd (x:=.int i 0) rfl ?_);show C_ _ _ (Rv (.ref t) >>= _) _ _ s;refine b_ (Lp hol hdl ?_);simp only[LU,hx];refine b_ (OV (b_ (wpAny_setField ho hd (by simp) ?_)));show C_ _ _ (newExc (.type "StopIteration") [] >>= _) _ _ _;refine b_ ?_;simp only[newExc,newTuple];refine b_ (LV ?_ (by size_fits));refine b_ (m:=firstArgMember _ _) (wpAny_of_eq (a:=Value.none) (by first|rfl|(simp only[firstArgMember];rfl)) ?_);refine LV ?_ (by size_fits);simp only[raiseNew];refine b_ (wpAny_handled ?_)
 first|rw[show A.in1.handled=none from hh]|rw[hh]
 refine b_ (u_ (wpAny_throw ?_));exact hE _ _ (((NK ..).extBut.push _).push _) ⟨_,y_ _ rfl,rfl⟩
end
theorem qV{prog:E_}{w:Kz}{A:KM}(hh:A.handled=none)(it l:Addr)(hne:l≠it)(items:Array a_):MM prog w A it [it,l] items.size (fun i v=>items[i]? = some v) (fun i h=>h.IsTupleIter it l i/\h.IsTuple l items) where
 live:=fun _ _ st=>let⟨o,ho,_⟩:=st.1;⟨o,ho⟩
 frame:=fun _ _ _ st hk=>⟨let⟨o,ho,r⟩:=st.1;⟨o,hk it (by simp) o ho,r⟩,let⟨o,ho,r⟩:=st.2;⟨o,hk l (by simp) o ho,r⟩⟩
 item:=fun i s Q E hi st hQ=>by refine J6 st.1 st.2 (x:=items[i]) (by simp[hi]) fun h' hit' hs'=>?_;exact hQ _ h' s.toks (by simp[hi]) ⟨hit',st.2.extBut hs'.extBut hne⟩ hs'
 done:=fun s Q E st hE=>J0 hh st.1 st.2 (by simp) hE
theorem JR(l:Addr)(items:Array a_)(n:Nat)(dct:Option Addr)(sl:Array (Option a_)) :
  Rs (MV.«enumerate.__new__» ⟨[.type "enumerate",.ref l],[]⟩) (fun _ R s=>s.heap.get? l=some { cls:=.type "tuple",dict:=dct,data:=.seq items n,slots:=sl } /\
   R (.ok (.ret (.ref (s.heap.push { cls:=.type "tuple_iterator",data:=.fields #[.ref l,.int 0 0] }).objs.size)))
    { s with heap:=(s.heap.push { cls:=.type "tuple_iterator",data:=.fields #[.ref l,.int 0 0] }).push { cls:=.type "enumerate",data:=.fields #[.none,.bool false,.ref s.heap.objs.size,NU 0,.none,.none] } }):=
 .of_wp fun prog w A R s h=>by
  obtain⟨hp,g,d,tk,os⟩:=s;obtain⟨hl,h⟩:=h;have hsub:=sub_enumerate;have hL:NP (Mz ⟨hp,g,d,tk,os⟩) l items:=⟨_,hl,rfl,n,rfl⟩
  wp_walk using Mf hl
  refine wpAny_stack_any fun st=>u_ ?_;split
  .rename_i c _ _ _ _ _;cases(c==Value.type "enumerate")
   .wp_walk using Mf hl,Ls hL
    exact⟨_,rfl,h⟩
   .wp_walk using Mf hl,Ls hL
    exact⟨_,rfl,h⟩
  .wp_walk using Mf hl,Ls hL
   exact⟨_,rfl,h⟩
section
variable{prog:E_}{w:Kz}{A:KM}{E:a_->f_->Prop}{s:f_}
theorem JP{l:Addr}{items:Array a_}{Q:a_->f_->Prop}(hL:s.heap.IsTuple l items)(h:∀h',IsEnum h' (s.heap.objs.size+1) s.heap.objs.size 0 .none->h'.IsTupleIter s.heap.objs.size l 0->h'.objs.size=s.heap.objs.size+2 ->(∀b o,s.heap.get? b=some o->h'.get? b=some o)->Q (.ref (s.heap.objs.size+1)) { s with heap:=h' }):C_ (H_ prog w) A (call (.type "enumerate") [.ref l]) Q E s:=by
 obtain⟨⟨c,dct,dt,sl⟩,hl,hc,n,hd⟩:=hL;replace hc:c=.type "tuple" := hc;replace hd:dt=.seq items n:=hd;subst hc hd;refine NQ F.called_enumerate (by decide) (F.typeCall_enumerate_1 _) (F.newCall_enumerate_1 _) (fun obj=>F.args_object_init_2 obj _) F.entry_enumerate_new
  (JR l items n dct sl) ⟨hl,?_⟩
 have hz:(s.heap.push { cls:=.type "tuple_iterator",data:=.fields #[.ref l,.int 0 0] }).objs.size=s.heap.objs.size+1:=Lo ..;show _/\_;rw[hz];have he:IsEnum ((s.heap.push { cls:=.type "tuple_iterator",data:=.fields #[.ref l,.int 0 0] }).push
   { cls:=.type "enumerate",data:=.fields #[.none,.bool false,.ref s.heap.objs.size,NU 0,.none,.none] }) (s.heap.objs.size+1) s.heap.objs.size 0 .none:=by
  have:=y_ (s.heap.push { cls:=.type "tuple_iterator",data:=.fields #[.ref l,.int 0 0] })
   (o:={ cls:=.type "enumerate",data:=.fields #[.none,.bool false,.ref s.heap.objs.size,NU 0,.none,.none] }) rfl
  rw[hz]at this;exact this
 refine⟨⟨_,he,rfl⟩,h _ he ⟨_,e_ _ (y_ _ rfl),rfl,rfl⟩ (by rw[Lo,hz]) fun b o x=>e_ _ (e_ _ x)⟩
end
theorem sd{X:Cx}{pz:List (Addr×Obj)}{σ:L2.St}{H:Hp}{s:f_}{h':Heap}{ch:List Addr}{T:Addr}{o:HO}{t':Nat}(I:Inv X pz σ H s)(hch:∀b∈ch,cO X pz H b)(k:∀b ob,b∉ch->s.heap.get? b=some ob->h'.get? b=some ob)(hT:s.heap.objs.size<=T)(new:bx X.prog X.w (upd H T o) h' T o):Inv X pz σ (upd H T o) { s with heap:=h',toks:=t' }:=by
 have hTn:H T=none:=I.hok.fresh hT;have trk:∀b u,H b=some u->b∉ch:=fun b u e hb=>by rw[(hch b hb).1]at e;cases e
 have neT:∀b ob,s.heap.get? b=some ob->b≠T:=fun b ob e=>D_ (F_ (o_ e) hT);have keepU:∀b u,H b=some u->upd H T o b=some u:=fun b u e=>by rw[bg (i3 e hTn)];exact e
 refine I.step (g':=s.gens) (d':=s.drawn) (ch:=ch) (fun b hb=>?_) (fun b ob _ _ hc e _=>k b ob hc e) (fun b ob _ _ hc e _=>⟨ob.slots,k b ob hc e⟩) (fun b ob hc e n=>by rw[bg (neT b ob e)];exact n)
  (fun b ob hc e=>⟨ob,k b ob hc e⟩) (fun b xs e=>keepU b _ e) (fun b ob u e=>keepU b _ e) (fun b ps e=>⟨#[],by rw[keepU b _ e];simp⟩) (fun m hm=>?_) (fun b u e=>?_) I.bare
 .obtain⟨z0,z1,z2,z3,z4,z5⟩:=hch b hb;exact⟨z3,z1,z4,z5⟩
 .obtain⟨ob,es,ep,ho,r⟩:=hm;exact⟨ob,es,ep,k _ ob (fun hb=>(hch _ hb).2.1 rfl) ho,r⟩
 .by_cases hb:b=T
  .subst hb;rw[bO]at e;cases e;exact new
  .rw[bg hb]at e;refine(I.hok b u e).stay (fun c v hc q=>k c v ?_ q) (fun c q=>keepU c _ q) fun c xs q=>keepU c _ q;rcases hc with z|z
   .rw[z];exact trk b u e
   .exact trk c _ z
def kY(sq:Hp->List V->Prop):It:=⟨fun i H=>∃xs x,sq H xs/\xs[i]? = some x,fun i H x H'=>∃p v,H p=none/\x=.ref p/\H'=upd H p (.tup [.int i,v])/\∀xs,sq H xs->xs[i]? = some v,fun i H=>∃xs,sq H xs/\xs.length=i⟩
theorem yI{P:E_}{w:Kz}{H:Hp}{h:Heap}{T:Addr}{i:Nat}{tk:Tok}{x:a_}{v:V}(hT:h.get? T=some { cls:=.type "tuple",data:=.seq #[.int i tk,x] })(r:L2.aq v x):bx P w H h T (.tup [.int i,v]):=⟨by show 2<=sizeLine;decide,[.int i tk,x],.cons ⟨tk,rfl⟩ (.cons r .nil),⟨_,hT,rfl,0,rfl⟩,_,hT,rfl⟩
theorem IK{P:E_}{w:Kz}{K:W.Frag}{elts:List Expr}{k:Nat}{pos:Pos}(a it e:Addr)(hei:e≠it):Turn P w K (.Tuple elts k pos) (kY fun H xs=>aO K H a xs) [e,it] e (fun i h=>(∃old,IsEnum h e it i old)/\h.IsListIter it a i) where
 mem:=by simp
 obj:=fun i h st b hb=>by
  obtain⟨⟨old,he⟩,o,ho,hc,hd⟩:=st;rcases z_.mp hb with rfl|hb
  .exact⟨_,he,fun v z=>by have z':Data.fields _=Data.cell v:=z;cases z'⟩
  .rw[t_.mp hb];exact⟨o,ho,fun v z=>by rw[hd]at z;cases z⟩
 keep:=fun i h h' st kk=>by obtain⟨⟨old,he⟩,hi⟩:=st;exact⟨⟨old,kk e (by simp) _ he⟩,hi.at fun o q=>kk it (by simp) o q⟩
 item:=by
  intro X hP hw hK hc i pz s σ H E I hf st hg;subst hP hw hK;obtain⟨xs,x,hq,hx⟩:=hg;obtain⟨its,rv,p,hz⟩:=I.list hq;obtain⟨⟨old,he⟩,hi⟩:=st;obtain⟨o1,ho1,hc1,hd1⟩:=id hi;obtain⟨o2,ho2,hc2,_⟩:=id p.isList;have hai:a≠it:=by rintro rfl;rw[ho1]at ho2;cases ho2;rw[hc1]at hc2;exact absurd hc2 (by decide)
  have hea:e≠a:=by rintro rfl;rw[he]at ho2;cases ho2;exact absurd (show Value.type "enumerate" = _ from hc2) (by decide)
  have hlt:i<its.toArray.size:=by have:=(c_.mp hx).1;rw[n_,<-rv.length];exact this
  refine OC (OW (A:=X.A.in1) (show X.A.in1.handled=none from I.ok.hd hc) it a hai its.toArray) he ⟨hi,p.isList⟩ hlt hei (by simp[hei,hea]) fun y h' tk hP ho hs' hT hsz hk=>?_;refine⟨_,rfl,N1 ho fun h'' he'' hs''=>?_⟩;obtain⟨u,hu,ru⟩:=rv.get hx;have hy:y=u:=by
   have:its[i]? = some y:=by simpa using hP
   rw[hu]at this;exact(G_ this).symm
  subst hy;have hTe:s.heap.objs.size≠e:=KL (o_ he);have hT'':h''.get? s.heap.objs.size=some { cls:=.type "tuple",data:=.seq #[.int i tk,y] }:=(hs''.2 _ hTe).trans hT;refine⟨.ref s.heap.objs.size,upd H s.heap.objs.size (.tup [.int i,x]),sd (s:=s) (h':=h'') (t':=tk+1) (ch:=[e,it]) I hf (fun b ob hb q=>?_) (q_ _) (yI hT'' ru),rfl,⟨_,x,I.hok.fresh (q_ _),rfl,rfl,fun ys hy=>by rw[I.list_inj hy hq];exact hx⟩,⟨⟨_,by simpa using he''⟩,hs'.1.extBut hs''.extBut (Mh hei)⟩,fun b hb=>?_⟩
  .have hbe:b≠e:=fun z=>hb (by simp[z]);exact(hs''.2 b hbe).trans (hk b ob hbe (fun z=>hb (by simp[z])) q)
  .rw[bg ?_]
   .exact(hf b hb).1
   .rcases z_.mp hb with rfl|hb
    .exact D_ (o_ he)
    .rw[t_.mp hb];exact D_ (o_ ho1)
 done:=by
  intro X hP hw hK hc i pz s σ H E I hf st hg;subst hP hw hK;obtain⟨xs,hq,hx⟩:=hg;obtain⟨its,rv,p,hz⟩:=I.list hq;obtain⟨⟨old,he⟩,hi⟩:=st;obtain⟨o1,ho1,hc1,hd1⟩:=id hi;obtain⟨o2,ho2,hc2,_⟩:=id p.isList;have hai:a≠it:=by rintro rfl;rw[ho1]at ho2;cases ho2;rw[hc1]at hc2;exact absurd hc2 (by decide)
  obtain⟨f0,f1,f2,f3,f4,f5⟩:=hf it (by simp);have hn:its.toArray.size=i:=by rw[n_,<-rv.length];exact hx
  refine OX (OW (A:=X.A.in1) (show X.A.in1.handled=none from I.ok.hd hc) it a hai its.toArray) he ⟨by rw[hn];exact hi,p.isList⟩ fun h' eb=>⟨rfl,I.turned (t':=s.toks) (fun b o hb q=>eb b o hb q) f0 f1 f3 f4 f5⟩
 self:=fun _ _ _ _ _ st h=>let⟨⟨_,he⟩,_⟩:=st;Nm he h
theorem IsTupleIter.at'{h h':Heap}{a t:Addr}{i:Nat}(x:h.IsTupleIter a t i)(hs:∀o,h.get? a=some o->h'.get? a=some o):h'.IsTupleIter a t i:=let⟨o,ho,r⟩:=x;⟨o,hs o ho,r⟩
theorem IL{P:E_}{w:Kz}{K:W.Frag}{elts:List Expr}{k:Nat}{pos:Pos}(a it e:Addr)(hei:e≠it):Turn P w K (.Tuple elts k pos) (kY fun H xs=>bF K H a xs) [e,it] e (fun i h=>(∃old,IsEnum h e it i old)/\h.IsTupleIter it a i) where
 mem:=by simp
 obj:=fun i h st b hb=>by
  obtain⟨⟨old,he⟩,o,ho,hc,hd⟩:=st;rcases z_.mp hb with rfl|hb
  .exact⟨_,he,fun v z=>by have z':Data.fields _=Data.cell v:=z;cases z'⟩
  .rw[t_.mp hb];exact⟨o,ho,fun v z=>by rw[hd]at z;cases z⟩
 keep:=fun i h h' st kk=>by obtain⟨⟨old,he⟩,hi⟩:=st;exact⟨⟨old,kk e (by simp) _ he⟩,IsTupleIter.at' hi fun o q=>kk it (by simp) o q⟩
 item:=by
  intro X hP hw hK hc i pz s σ H E I hf st hg;subst hP hw hK;obtain⟨xs,x,hq,hx⟩:=hg;obtain⟨its,rv,p,hz⟩:=I.tuple hq;obtain⟨⟨old,he⟩,hi⟩:=st;obtain⟨o1,ho1,hc1,hd1⟩:=id hi;obtain⟨o2,ho2,hc2,_⟩:=id p;have hai:a≠it:=by rintro rfl;rw[ho1]at ho2;cases ho2;rw[hc1]at hc2;exact absurd hc2 (by decide)
  have hea:e≠a:=by rintro rfl;rw[he]at ho2;cases ho2;exact absurd (show Value.type "enumerate" = _ from hc2) (by decide)
  have hlt:i<its.toArray.size:=by have:=(c_.mp hx).1;rw[n_,<-rv.length];exact this
  refine OC (qV (A:=X.A.in1) (show X.A.in1.handled=none from I.ok.hd hc) it a hai its.toArray) he ⟨hi,p⟩ hlt hei (by simp[hei,hea]) fun y h' tk hP ho hs' hT hsz hk=>?_;refine⟨_,rfl,N1 ho fun h'' he'' hs''=>?_⟩;obtain⟨u,hu,ru⟩:=rv.get hx;have hy:y=u:=by
   have:its[i]? = some y:=by simpa using hP
   rw[hu]at this;exact(G_ this).symm
  subst hy;have hTe:s.heap.objs.size≠e:=KL (o_ he);have hT'':h''.get? s.heap.objs.size=some { cls:=.type "tuple",data:=.seq #[.int i tk,y] }:=(hs''.2 _ hTe).trans hT;refine⟨.ref s.heap.objs.size,upd H s.heap.objs.size (.tup [.int i,x]),sd (s:=s) (h':=h'') (t':=tk+1) (ch:=[e,it]) I hf (fun b ob hb q=>?_) (q_ _) (yI hT'' ru),rfl,⟨_,x,I.hok.fresh (q_ _),rfl,rfl,fun ys hy=>by rw[I.tuple_inj hy hq];exact hx⟩,⟨⟨_,by simpa using he''⟩,hs'.1.extBut hs''.extBut (Mh hei)⟩,fun b hb=>?_⟩
  .have hbe:b≠e:=fun z=>hb (by simp[z]);exact(hs''.2 b hbe).trans (hk b ob hbe (fun z=>hb (by simp[z])) q)
  .rw[bg ?_]
   .exact(hf b hb).1
   .rcases z_.mp hb with rfl|hb
    .exact D_ (o_ he)
    .rw[t_.mp hb];exact D_ (o_ ho1)
 done:=by
  intro X hP hw hK hc i pz s σ H E I hf st hg;subst hP hw hK;obtain⟨xs,hq,hx⟩:=hg;obtain⟨its,rv,p,hz⟩:=I.tuple hq;obtain⟨⟨old,he⟩,hi⟩:=st;obtain⟨o1,ho1,hc1,hd1⟩:=id hi;obtain⟨o2,ho2,hc2,_⟩:=id p;have hai:a≠it:=by rintro rfl;rw[ho1]at ho2;cases ho2;rw[hc1]at hc2;exact absurd hc2 (by decide)
  obtain⟨f0,f1,f2,f3,f4,f5⟩:=hf it (by simp);have hn:its.toArray.size=i:=by rw[n_,<-rv.length];exact hx
  refine OX (qV (A:=X.A.in1) (show X.A.in1.handled=none from I.ok.hd hc) it a hai its.toArray) he ⟨by rw[hn];exact hi,p⟩ fun h' eb=>⟨rfl,I.turned (t':=s.toks) (fun b o hb q=>eb b o hb q) f0 f1 f3 f4 f5⟩
 self:=fun _ _ _ _ _ st h=>let⟨⟨_,he⟩,_⟩:=st;Nm he h
end
def i8:D->Option String
|.non=>some "NoneType"
|.bl _=>some "bool"
|.int _=>some "int"
|.str _=>some "str"
|.tup _=>some "tuple"
|.lst _=>some "list"
|.dic _=>some "dict"
|.obj _ _=>none
def dk(t T:String):Bool:=t==T || (t == "bool" && T == "int")
def fG(T:String)(d:D):Option D:=(i8 d).map fun t=>.bl (dk t T)
def Bx(K:W.Frag)(x:V)(H:Hp)(t:String):Prop:=match x with
|.non=>t = "NoneType"
|.bl _=>t = "bool"
|.int _=>t = "int"
|.str _=>t = "str"
|.ref p=>(t = "list"/\∃xs,aO K H p xs)\/(t = "tuple"/\∃xs,bF K H p xs)\/(t = "dict"/\∃kvs,Rd H p (.dK kvs))
|_=>False
theorem DN{K:W.Frag}{G:GH}{H:Hp}{v:V}{d:D}{t:String}(gk:aC K G H)(h:RB K G H v d)(e:i8 d=some t):Bx K v H t:=by cases d with
|non=>cases e;rw[h.non gk];rfl
|bl b=>cases e;rw[h.bl gk];rfl
|int i=>cases e;rw[h.int gk];rfl
|str x=>cases e;rw[h.str gk];rfl
|tup ds=>cases e;obtain⟨a,xs,rfl,s,r⟩:=h.tup gk;exact .inr (.inl ⟨rfl,xs,s⟩)
|lst ds=>cases e;obtain⟨a,xs,rfl,s,r⟩:=h.lst gk;exact .inl ⟨rfl,xs,s⟩
|dic ds=>cases e;obtain⟨a,xs,rfl,s,r⟩:=h.dic gk;exact .inr (.inr ⟨rfl,xs,s⟩)
|obj _ _=>cases e
section
variable{X:Cx}{g:GE}{m:List Md}{e a:Expr}{f:FE}{pos p p2:Pos}
theorem F5:dW X (.builtin "isinstance") (fun xs H Q=>∃x t T b,xs=[x,.ty T]/\Bx X.K x H t/\W.kitOne X.K (.type t) (.type T)=some b/\Q (.bl b) H):=by
 intro pz s σ H xs us Q I r h;obtain⟨x,t,T,b,rfl,ty,e,q⟩:=h;obtain⟨u,w',rfl,rx,ry⟩:=wX r;cases ry;have fin:∀tk,EP X pz σ Q (.bool b) { s with toks:=tk }:=fun tk=>⟨.bl b,H,I.tok tk,rfl,q⟩
 cases x with
|non=>cases rx;cases(show t = "NoneType" from ty);exact W.kia_one W.kitx_none I.kIn True.intro e (fun z=>nomatch z) fin
|bl y=>cases rx;cases(show t = "bool" from ty);exact W.kia_one W.kitx_bool I.kIn True.intro e (fun z=>nomatch z) fin
|int i=>obtain⟨t,rfl⟩:=rx;cases ty;exact W.kia_one W.kitx_int I.kIn True.intro e (fun z=>nomatch z) fin
|str i=>obtain⟨t,rfl⟩:=rx;cases ty;exact W.kia_one W.kitx_str I.kIn True.intro e (fun z=>nomatch z) fin
|ref p=>
  cases rx;rcases ty with⟨rfl,xs,hq⟩|⟨rfl,xs,hq⟩|⟨rfl,kvs,hq⟩
  .obtain⟨its,_,pl,_⟩:=I.list hq;obtain⟨o,ho,hc,_⟩:=pl.isList;exact W.kia_one W.kitx_list I.kIn ⟨o,ho,hc⟩ e (fun z=>nomatch z) fin
  .obtain⟨its,_,pl,_⟩:=I.tuple hq;obtain⟨o,ho,hc,_⟩:=pl;exact W.kia_one W.kitx_tuple I.kIn ⟨o,ho,hc⟩ e (fun z=>nomatch z) fin
  .obtain⟨_,_,vs,_,pp⟩:=(show bx X.prog X.w H s.heap p (.dK kvs)from hq.ok I.hok)
   obtain⟨o,es,ep,h1,h2,_⟩:=pp;exact W.kia_one W.kitx_dict I.kIn ⟨o,h1,h2.1⟩ e (fun z=>nomatch z) fin
|_=>exact(show False from ty).elim
theorem mw(x:Str)(T:String)(hv:MT x=some (.type T))(hk:∀(d:D)(t:String),i8 d=some t->W.kitOne X.K (.type t) (.type T)=some (dk t T))(hg:Gl X "isinstance")(hm:X.mg "isinstance" = none)(hgT:Gl X x)(hmT:X.mg x=none)(he:SB X g m e f)(hn:x≠"__name__" := by decide)(hd:(x==("__debug__" : Str))=false:=by decide)(hs1:m_ [e,.Name x p2] X.env=(false,eval e X.env)::m_ [.Name x p2] X.env:=by rfl)(hs2:m_ [.Name x p2] X.env=(false,eval (.Name x p2) X.env)::m_ [] X.env:=by rfl)(hpl:(backTo pos (m_ [.Name x p2] X.env)).any (·.1)=false:=by rfl):SE X g m (.Call (.Name "isinstance" p) [e,.Name x p2] [] pos) (f1 f (fG T)):=by
 refine PE.imp (mV F5 hg hm (by first|exact Qx|rfl) (gb he (gb (FM (v:=.ty T) hgT hmT hv rfl hn hd) iU hs2) hs1) (by decide) (by decide) hs1 hpl) fun σ H Q ⟨r,G,si,q⟩=>⟨r,G,si,a9 (aU q) fun d q1 v G1 H1 w1 r1=>?_⟩
 obtain⟨d',e',q2⟩:=cv q1;unfold fG at e';cases et:i8 d with
|none=>rw[et]at e';cases e'
|some t=>rw[et]at e';cases e';exact⟨v,t,T,_,rfl,DN w1.ok r1 et,hk d t et,q2 _ G1 H1 w1 (.scl (.bl _))⟩
end
theorem pi{d:D}{t:String}(h:i8 d=some t){P:String->Prop}(h1:P "NoneType")(h2:P "bool")(h3:P "int")(h4:P "str")(h5:P "tuple")(h6:P "list")(h7:P "dict"):P t:=by cases d <;> cases h <;> assumption
theorem El(K:W.Frag)(d:D)(t:String)(h:i8 d=some t):W.kitOne K (.type t) (.type "int")=some (dk t "int"):=pi (P:=fun t=>W.kitOne K (.type t) (.type "int")=some (dk t "int")) h (by kernel_rfl) (by kernel_rfl) (by kernel_rfl) (by kernel_rfl) (by kernel_rfl) (by kernel_rfl) (by kernel_rfl)
theorem Hm(K:W.Frag)(d:D)(t:String)(h:i8 d=some t):W.kitOne K (.type t) (.type "bool")=some (dk t "bool"):=pi (P:=fun t=>W.kitOne K (.type t) (.type "bool")=some (dk t "bool")) h (by kernel_rfl) (by kernel_rfl) (by kernel_rfl) (by kernel_rfl) (by kernel_rfl) (by kernel_rfl) (by kernel_rfl)
theorem yT(K:W.Frag)(d:D)(t:String)(h:i8 d=some t):W.kitOne K (.type t) (.type "list")=some (dk t "list"):=pi (P:=fun t=>W.kitOne K (.type t) (.type "list")=some (dk t "list")) h (by kernel_rfl) (by kernel_rfl) (by kernel_rfl) (by kernel_rfl) (by kernel_rfl) (by kernel_rfl) (by kernel_rfl)
theorem Hv(K:W.Frag)(d:D)(t:String)(h:i8 d=some t):W.kitOne K (.type t) (.type "tuple")=some (dk t "tuple"):=pi (P:=fun t=>W.kitOne K (.type t) (.type "tuple")=some (dk t "tuple")) h (by kernel_rfl) (by kernel_rfl) (by kernel_rfl) (by kernel_rfl) (by kernel_rfl) (by kernel_rfl) (by kernel_rfl)
section
variable{X:Cx}{g:GE}{m:List Md}{e a b:Expr}{f fa:FE}{pos p pos2 p2:Pos}{es:List Expr}{fl:al->Res (List D)}
def dm(lo:Int)(n:Nat):List V:=(h_ n).map fun(i:Nat)=>V.int (lo+(i:Int))
theorem D9{K:W.Frag}{G:GH}(lo:Int)(n:Nat):ba K G (dm lo n) (cT lo n):=by
 unfold dm cT
 induction(h_ n)with
|nil=>exact .nil
|cons i l ih=>exact .cons (.scl (.int _)) ih
theorem tJ:∀{xs:List V}{us:List a_},xs.length=us.length->(∀(j:Nat) v u,xs[j]? = some v->us[j]? = some u->L2.aq v u)->ak xs us
|[],[],_,_=>.nil
|v::xs,u::us,hl,h=>.cons (h 0 v u rfl rfl) (tJ (by simpa using hl) fun j a b e1 e2=>h (j+1) a b (by simpa using e1) (by simpa using e2))
|[],_::_,hl,_=>by simp at hl
|_::_,[],hl,_=>by simp at hl
theorem He{lo:Int}{n:Nat}{acc:Array a_}(h:ItemsOf (fun i v=>∃t,v=.int (lo+i*1) t) acc n):ak (dm lo n) acc.toList:=by
 refine tJ (by simp[dm,h.1]) fun j v u e1 e2=>?_;have hj:j<n:=by have:=(c_.mp e1).1;simpa[dm]using this
 unfold dm at e1;rw[x_,Ld hj]at e1;cases e1;obtain⟨t,rfl⟩:=h.2 j u (by rw[<-MJ];exact e2);exact⟨t,by simp⟩
theorem GK:dW X (.type "range") (fun xs H Q=>∃j,xs=[.int j]/\∀p,H p=none->Q (.ref p) (upd H p (.rng 0 j))):=by intro pz s σ H xs us Q I r h;obtain⟨j,rfl,q⟩:=h;obtain⟨u,rfl,t,rfl⟩:=fN r;refine call_range_1 ⟨.ref s.heap.objs.size,_,I.laid (o:=.rng 0 j) (fun b o e=>e_ _ e) (q_ _) ⟨_,_,_,y_ _ rfl⟩,rfl,q _ (I.hok.fresh (q_ _))⟩
theorem JN(hc:X.calm=true):dW X (.type "list") (fun xs H Q=>∃p lo hi,xs=[.ref p]/\H p=some (.rng lo hi)/\(-(2^62)<=lo/\lo<2^62/\-(2^62)<=hi/\hi<2^62)/\(hi-lo).toNat<=sizeLine/\∀l,H l=none->Q (.ref l) (upd H l (.lst (dm lo (hi-lo).toNat)))):=by
 intro pz s σ H xs us Q I r h;obtain⟨p,lo,hi,rfl,hp,⟨h1,h2,h3,h4⟩,hz,q⟩:=h;obtain⟨u,rfl,rx⟩:=fN r;cases rx;obtain⟨t,u,v,ho⟩:=(show bx X.prog X.w H s.heap p (.rng lo hi)from I.hok p _ hp)
 have e2:Oz lo hi 1=(((hi-lo).toNat:Nat):Int):=by rw[rangeSize_one];split <;> omega
 refine call_list_range (I.ok.hd hc) (r:=p) (a:=lo) (b:=hi) (c:=1) ho (small_one h1 h2 h3 h4) e2 (by rw[K1]at hz;omega) fun h' tk acc c' kp hS hacc=>?_;refine⟨.ref s.heap.objs.size,_,I.laid (t':=tk) kp (q_ _) (show bx X.prog X.w _ h' _ (.lst (dm lo (hi-lo).toNat))from⟨by unfold dm;rw[l_,K3];exact hz,acc.toList,c',He hacc,by rw[Nw];exact hS⟩),rfl,q _ (I.hok.fresh (q_ _))⟩
def jY:List D->Option D
|[.int j]=>if-(2^62)<=j/\j<2^62/\j.toNat<=sizeLine then some (.lst (cT 0 j.toNat))else none
|_=>none
theorem xf{H:Hp}{p l:Addr}{o:HO}(h:upd H p o l=none):H l=none/\l≠p:=by
 by_cases e:l=p
 .subst e;rw[bO]at h;cases h
 .rw[bg e]at h;exact⟨h,e⟩
theorem rq(hc:X.calm=true)(hgl:Gl X "list")(hml:X.mg "list" = none)(hg:Gl X "range")(hm:X.mg "range" = none)(ha:gS X g m [a] fl)(hs:m_ [a] X.env=(false,eval a X.env)::m_ [] X.env:=by rfl)(hs2:m_ [.Call (.Name "range" p2) [a] [] pos2] X.env=(false,eval (.Call (.Name "range" p2) [a] [] pos2) X.env)::m_ [] X.env:=by rfl):SO X g m (.Call (.Name "list" p) [.Call (.Name "range" p2) [a] [] pos2] [] pos) (fC fl jY):=by
 refine PE.imp (m4 (JN hc) hgl hml rfl (gb (m4 GK hg hm boot_range ha (by decide) (by decide) hs rfl) iU hs2) (by decide) (by decide) hs2 rfl) fun σ H Q ⟨r,G,si,q⟩=>⟨r,G,si,a9 (aU q) fun ds q1 vs G1 H1 w1 rs=>?_⟩
 obtain⟨d,e,q2⟩:=cv q1;unfold jY at e;split at e
 .split at e
  .rename_i j hj;cases e;cases rs with
  |cons r1 t=>cases t;refine⟨j,by rw[r1.int w1.ok],fun p hp=>⟨p,0,j,rfl,bO,⟨by decide,by decide,hj.1,hj.2.1⟩,by simpa using hj.2.2,fun l hl=>?_⟩⟩;obtain⟨hl1,hl2⟩:=xf hl;have w2:=Grow.new w1.ok hp (.rng 0 j);have w3:=Grow.new w2.ok hl (.lst (dm 0 (j-0).toNat));refine q2 l G1 _ (w1.trans (w2.trans w3)) (w1.back hl1) ⟨w1.ok.isN hl1,.lst bO ?_⟩;rw[show j-0=j by omega];exact D9 0 _
  .cases e
 .cases e
end
def vZ(K:W.Frag)(r:V->List V->Hp->VK->Prop)(k:D->List D->Option D):Prop:=∀(G:GH)(H:Hp)(v:V)(d:D)(vs:List V)(ds:List D)(d':D)(Q:VK),aC K G H->RB K G H v d->Paired (RB K G H) vs ds->k d ds=some d' ->(∀v' G' H',Grow K G H G' H'->RG K G' v' d'->Q v' H')->r v vs H Q
def qi(T:String):D->Bool
|.lst _=>T == "list"
|.tup _=>T == "tuple"
|.dic _=>T == "dict"
|.str _=>T == "str"
|.int _=>T == "int"
|_=>false
theorem DO{K:W.Frag}{G:GH}{H:Hp}{v:V}{d:D}{T:String}(gk:aC K G H)(h:RB K G H v d)(t:qi T d=true):lY K T v H:=by cases d with
|lst ds=>obtain⟨a,xs,rfl,s,r⟩:=h.lst gk;exact .inl ⟨Mg t,xs,s⟩
|tup ds=>
  have e:T = "tuple" := Mg t;rcases h with h|⟨a,rfl,o⟩
  .cases h with
  |scl s=>cases s
  |ref q=>cases gk _ _ q with
   |tup r s=>exact .inr (.inl ⟨e,.inr ⟨_,r⟩⟩)
  |kc k=>cases k with
   |tup r s z=>exact .inr (.inl ⟨e,.inl z⟩)
  .cases o.ob
|dic ds=>obtain⟨a,xs,rfl,s,r⟩:=h.dic gk;exact .inr (.inr (.inl ⟨Mg t,.inl ⟨xs,s⟩⟩))
|str x=>rw[h.str gk];exact Mg t
|int x=>rw[h.int gk];exact Mg t
|_=>cases t
def fM(T:String)(fo:FE)(fl:al->Res (List D))(k:D->List D->Option D):FE:=fun r=>(fo r).bind fun d=>if qi T d=true then(fl r).bind fun ds=>bH (k d ds)else .stuck
section
variable{X:Cx}{g:GE}{m mb:List Md}{e a b o:Expr}{es:List Expr}{f fa fb fo:FE}{fl:al->Res (List D)}{pos pos' apos cpos:Pos}{ro:Bool}{x name:Str}{T id:String}{R:V->List V->Hp->VK->Prop}{k:D->List D->Option D}
theorem jd(pa:OQ T)(slot:Slot T name id)(hty:RC (.builtin id)=pure (.type "method_descriptor"))(hmt:fI X id R)(hk:vZ X.K R k)(ho:SB X g m o fo)(ha:gS X g m (e::es) fl)(hbase:Mo o name X.env (eval o X.env)=eval o X.env:=by rfl)(hfew:((backTo cpos (m_ (e::es) X.env)).all (fun x=>! x.1)&&(P3 cpos (Oc [] X.env)).all (fun x=>x.1.isSome)&&decide ((e::es).length+([]:List Nu).length+(if ([]:List Nu).isEmpty then 0 else 1)<30))=true:=by rfl)(hline:(apos.endLine==cpos.line)=true:=by rfl)(hst:m_ (e::es) X.env=(false,eval e X.env)::m_ es X.env:=by rfl)(hplain:(backTo cpos (m_ es X.env)).any (·.1)=false:=by rfl):SE X g m (.Call (.Attribute o name apos) (e::es) [] cpos) (fM T fo fl k):=by
 refine PE.imp (wW pa slot hty hmt ho ha hbase hfew hline hst hplain) fun σ H Q ⟨r,G,si,q⟩=>⟨r,G,si,a9 (aU q) fun d q1 v G1 H1 w1 r1=>?_⟩
 by_cases ht:qi T d=true
 .rw[if_pos ht]at q1;refine⟨DO w1.ok r1 ht,r,G1,si.grow w1,eV (aU q1) w1 fun ds q2 vs G2 H2 w2 rs=>?_⟩;obtain⟨d',e',q3⟩:=cv q2;exact hk G2 H2 v d vs ds d' Q w2.ok (r1.mono w2) rs e' fun v' G' H' w' z=>q3 v' G' H' ((w1.trans w2).trans w') z
 .rw[if_neg ht]at q1;exact q1.elim
def ip(x:V):List V->Option Nat
|[]=>none
|y::xs=>if gr y x=true then some 0 else(ip x xs).map (· + 1)
def fO(x:D):List D->Option Nat
|[]=>none
|y::xs=>if dz y x=true then some 0 else(fO x xs).map (· + 1)
theorem rZ(x:D):∀ds:List D,ip (d4 x) (ds.map d4)=fO x ds
|[]=>rfl
|y::ds=>by show(if gr (d4 y) (d4 x)=true then some 0 else(ip (d4 x) (ds.map d4)).map (· + 1))=if dz y x=true then some 0 else(fO x ds).map (· + 1);rw[rZ x ds];rfl
theorem rY{x:V}{xs:List V}{us:List a_}{j:Nat}(h0:ak xs us)(f:xs.all dX=true)(h:ip x xs=some j):∃hj:j<us.length,c6 x us[j]=true/\∀i (hi:i<us.length),i<j->c6 x us[i]=false:=by induction h0 generalizing j with
|nil=>cases h
|@cons y u xs us r t ih=>
  rw[Mn,Kt]at f;unfold ip at h;by_cases hy:gr y x=true
  .rw[if_pos hy]at h;cases h;exact⟨Nat.zero_lt_succ _,by show c6 x u=true;rw[ou r f.1];exact hy,fun i _ hlt=>absurd hlt (Nat.not_lt_zero _)⟩
  .rw[if_neg hy]at h;cases e:ip x xs with
  |none=>rw[e]at h;cases h
  |some z=>rw[e]at h;cases h;obtain⟨a,b,c⟩:=ih f.2 e;refine⟨Nat.succ_lt_succ a,b,fun i hi hlt=>?_⟩;cases i with
   |zero=>show c6 x u=false;rw[ou r f.1];simpa using hy
   |succ i=>exact c i (OY hi) (OY hlt)
def yw(K:W.Frag):V->List V->Hp->VK->Prop:=fun x vs H Q=>∃p xs y j,x=.ref p/\vs=[y]/\aO K H p xs/\dX y=true/\xs.all dX=true/\ip y xs=some j/\Q (.int j) H
def yx(K:W.Frag):V->List V->Hp->VK->Prop:=fun x vs H Q=>∃p xs y j,x=.ref p/\vs=[y]/\bF K H p xs/\dX y=true/\xs.all dX=true/\ip y xs=some j/\Q (.int j) H
theorem sx:fI X "list.index" (yw X.K):=by
 intro pz s σ H x vs v us Q I rx rv h;obtain⟨p,xs,y,j,rfl,rfl,hq,fy,fx,e,q⟩:=h;cases rx;obtain⟨u,rfl,ru⟩:=fN rv;obtain⟨its,r,pl,hz⟩:=I.list hq;obtain⟨o,n,ho,hc,hd,hs⟩:=pl;obtain⟨a,b,c⟩:=rY r fx e;have hl:=r.length;obtain⟨ocls,odict,odata,oslots⟩:=o;simp only at hc hd hs;subst hc hd hs;refine NY Mx ⟨_,ho,rfl⟩ PySem.F.entry_list_index (PySem.F.args_list_index_2 _ _)
  (SeqAt.list_indexAt p its.toArray n none oslots u (c6 y) j (by simpa using a) (by rw[K1]at hz;omega) (by simpa using b) (fun i hi hlt=>by simpa using c i (by simpa using hi) hlt)) ⟨ho,fun w hw=>kg ru fy r fx w (by simpa using hw),⟨.int j,H,I.tok _,⟨_,rfl⟩,q⟩⟩
theorem HB:fI X "tuple.index" (yx X.K):=by
 intro pz s σ H x vs v us Q I rx rv h;obtain⟨p,xs,y,j,rfl,rfl,hq,fy,fx,e,q⟩:=h;cases rx;obtain⟨u,rfl,ru⟩:=fN rv;obtain⟨its,r,pl,hz⟩:=I.tuple hq;obtain⟨o,ho,hc,n,hs⟩:=pl;obtain⟨a,b,c⟩:=rY r fx e;have hl:=r.length;obtain⟨ocls,odict,odata,oslots⟩:=o;simp only at hc hs;subst hc hs;refine NY On ⟨_,ho,rfl⟩ PySem.F.entry_tuple_index (PySem.F.args_tuple_index_2 _ _)
  (JG p its.toArray n odict oslots u (c6 y) j (by simpa using a) (by simpa using b) (fun i hi hlt=>by simpa using c i (by simpa using hi) hlt)) ⟨ho,fun w hw=>kg ru fy r fx w (by simpa using hw),⟨.int j,H,I.tok _,⟨_,rfl⟩,q⟩⟩
def xl:D->List D->Option D
|.lst ds,[x]=>if ce x=true/\ds.all ce=true then(fO x ds).map fun j=>.int j else none
|.tup ds,[x]=>if ce x=true/\ds.all ce=true then(fO x ds).map fun j=>.int j else none
|_,_=>none
theorem Ar{K:W.Frag}{G:GH}{H:Hp}{ds:List D}{xs:List V}{x d':D}{v:V}(gk:aC K G H)(rs:ba K G xs ds)(rx:RB K G H v x)(e:(if ce x=true/\ds.all ce=true then(fO x ds).map fun j=>D.int j else none)=some d'):∃j:Nat,d'=.int j/\dX v=true/\xs.all dX=true/\ip v xs=some j:=by
 by_cases hc:ce x=true/\ds.all ce=true
 .rw[if_pos hc]at e;obtain⟨e1,f1⟩:=RB.flat rx gk hc.1;obtain⟨e3,f3⟩:=wz rs gk hc.2;cases ef:fO x ds with
 |none=>rw[ef]at e;cases e
 |some j=>rw[ef]at e;cases e;exact⟨j,rfl,f1,f3,by rw[e1,e3,rZ];exact ef⟩
 .rw[if_neg hc]at e;cases e
def mN(d:D)(ds:List D):Option D:=match d with
|.lst _=>xl d ds
|_=>none
def oF(d:D)(ds:List D):Option D:=match d with
|.tup _=>xl d ds
|_=>none
theorem ss{K:W.Frag}:vZ K (yw K) mN:=by intro G H v d vs ds d' Q gk rv rs e q;cases d with
|lst zs=>cases ds with
 |nil=>cases e
 |cons x t=>cases t with
  |nil=>cases rs with
   |cons r1 rt=>cases rt;obtain⟨a,xs,rfl,s,r⟩:=rv.lst gk;obtain⟨j,rfl,h1,h2,h3⟩:=Ar gk r r1 e;exact⟨a,xs,_,j,rfl,rfl,s,h1,h2,h3,q _ G H (Grow.refl gk) (.scl (.int _))⟩
  |cons _ _=>cases e
|_=>cases e
theorem HN{K:W.Frag}:vZ K (yx K) oF:=by intro G H v d vs ds d' Q gk rv rs e q;cases d with
|tup zs=>cases ds with
 |nil=>cases e
 |cons x t=>cases t with
  |nil=>cases rs with
   |cons r1 rt=>cases rt;obtain⟨a,xs,rfl,s,r⟩:=rv.tup gk;obtain⟨j,rfl,h1,h2,h3⟩:=Ar gk r r1 e;exact⟨a,xs,_,j,rfl,rfl,s,h1,h2,h3,q _ G H (Grow.refl gk) (.scl (.int _))⟩
  |cons _ _=>cases e
|_=>cases e
def jw(xs:List V):Bool:=xs.all fun x=>match x with|.int _=>true|_=>false
theorem Jn{xs:List V}(h:jw xs=true):xs.all dX=true:=by unfold jw at h;rw[LO]at h ⊢;intro x hx;have:=h x hx;cases x <;> first|rfl|exact absurd this i_
theorem zY{k:Int}{t:Tok}:∀{xs:List V}{us:List a_},ak xs us->jw xs=true->∀u∈us,Qf u (.int k t) (c6 (.int k) u)
|_,_,.nil,_=>fun u hu=>by cases hu
|y::xs,u::us,.cons r rt,f=>fun u' hu=>by unfold jw at f;rw[Mn,Kt]at f;cases y with
 |int i=>
   obtain⟨t',rfl⟩:=r;rcases z_.mp hu with rfl|hu
   .exact MeetsSeq.EqGives.int i k t' t
   .exact zY rt f.2 u' hu
 |_=>exact absurd f.1 i_
def wR:V->List V->Hp->VK->Prop:=fun x vs H Q=>∃l xs k j,x=.ref l/\vs=[.int k]/\H l=some (.lst xs)/\jw xs=true/\ip (.int k) xs=some j/\Q .non (upd H l (.lst (xs.eraseIdx j)))
theorem HC:fI X "list.remove" wR:=by
 intro pz s σ H x vs v us Q I rx rv h;obtain⟨l,xs,k,j,rfl,rfl,hH,hi,e,q⟩:=h;cases rx;obtain⟨u,rfl,t,rfl⟩:=fN rv;obtain⟨hz,its,n,r,hl,eo⟩:=I.lstM hH;obtain⟨a,b,c⟩:=rY r (Jn hi) e;have geq:∀y,y∈its.toArray->Qf y (.int k t) (c6 (.int k) y):=fun y hy=>zY r hi y (by simpa using hy);have hsz:its.toArray.size<=sizeLine:=by rw[n_];omega
 refine NY Oo ⟨_,eo,rfl⟩ PySem.F.entry_list_remove (PySem.F.args_list_remove_2 _ _) (MeetsSeq.list_remove l its.toArray n (.int k t) (c6 (.int k)) geq j (by simpa using a) (by simpa using b) (fun i hi hlt=>by simpa using c i (by simpa using hi) hlt) hsz) ⟨eo,?_⟩;refine⟨.non,_,I.lset (its':=its.eraseIdx j) hH eo ?_ ?_ ?_,rfl,q⟩
 .apply Array.toList_inj.mp;simp[Array.toList_eraseIdxIfInBounds]
 .exact ak.eraseIdx j r
 .have:=List.length_eraseIdx_le xs j;omega
def isInt:D->Bool
|.int _=>true
|_=>false
theorem Dk{K:W.Frag}{G:GH}{H:Hp}{xs:List V}{ds:List D}(h:ba K G xs ds)(gk:aC K G H)(hf:ds.all isInt=true):jw xs=true/\xs=ds.map d4:=by induction h with
|nil=>exact⟨rfl,rfl⟩
|@cons x d xs ds r t ih=>rw[Mn,Kt]at hf;obtain⟨h1,h2⟩:=ih hf.2;cases d with
 |int i=>have e:=r.int gk;subst e;refine⟨?_,by rw[B_,<-h2];rfl⟩;show jw _=true;unfold jw at h1 ⊢;rw[Mn,h1];rfl
 |_=>exact absurd hf.1 i_
def remD:D->List D->Option D
|.lst ds,[.int k]=>if ds.all isInt=true then(fO (.int k) ds).map fun j=>.lst (ds.eraseIdx j)else none
|_,_=>none
theorem D8{K:W.Frag}:eO K wR remD:=by
 intro G H a d vs ds d' Q gk ow rs e q;unfold remD at e;split at e
 .split at e
  .rename_i zs k hall;cases ef:fO (.int k) zs with
  |none=>rw[ef]at e;cases e
  |some j=>rw[ef]at e;cases e;cases ow.ob with
   |lst r s=>cases rs with
    |cons r1 t=>cases t;obtain⟨h1,h2⟩:=Dk s gk hall;refine⟨a,_,k,j,rfl,by rw[r1.int gk],r,h1,?_,q _ (.lst bO (Paired.er j s))⟩;rw[h2];exact(rZ (.int k) zs).trans ef
  .cases e
 .cases e
def mG(kvs more:List (au×D)):List (au×D):=more.foldl (fun acc kv=>cI acc kv.1 kv.2) kvs
theorem Es{K:W.Frag}{G:GH}{more:List (au×V)}{moreD:List (au×D)}{ps:List (au×V)}{kvs:List (au×D)}(hm:dE K G more moreD)(h:dE K G ps kvs):dE K G (jz ps more) (mG kvs moreD):=by induction hm generalizing ps kvs with
|nil=>exact h
|@cons p q m md r t ih=>have e:p.1=q.1:=r.1;show dE K G (jz (bJ ps p.1 p.2) _) (mG (cI kvs q.1 q.2) _);rw[e];exact ih (wO h r.2)
def yz:V->List V->Hp->VK->Prop:=fun x vs H Q=>∃d o kvs more,x=.ref d/\vs=[.ref o]/\d≠o/\H d=some (.dK kvs)/\Rd H o (.dK more)/\kvs.length+more.length<=sizeLine/\Q .non (upd H d (.dK (jz kvs more)))
theorem HD:fI X "dict.update" yz:=by
 intro pz s σ H x vs v us Q I rx rv h;obtain⟨d,o,kvs,more,rfl,rfl,hne,hd,ho,hz,q⟩:=h;cases rx;obtain⟨u,rfl,ru⟩:=fN rv;cases ru;obtain⟨z1,ns1,vs1,r1,dd1⟩:=(show bx X.prog X.w H s.heap d (.dK kvs)from I.hok d _ hd)
 obtain⟨z2,ns2,vs2,r2,dd2⟩:=(show bx X.prog X.w H s.heap o (.dK more)from ho.ok I.hok)
 have l1:=Paired.length r1;have l2:=Paired.length r2;refine call_meetsIn Op dd1.typeIs PySem.F.entry_dict_update (PySem.F.args_dict_update_2 _ _) (meets_dict_update (eu X.prog X.w) d o hne ns2) ⟨vs1,vs2,dd1,dd2,by omega,fun h' hm1 hm2 hs=>?_⟩;have hlen:(jz kvs more).length<=sizeLine:=KF (Bb more kvs) hz;refine⟨.non,_,I.write (t':=s.toks) (x:=d) (e:=d) (by rw[hd];exact trivial) (.inl rfl) (fun b u hb hu=>(hs.2 b hb).trans hu) (let⟨ob,_,_,e,_⟩:=hm1;⟨ob,e⟩) (show bx X.prog X.w _ h' d (.dK (jz kvs more))from⟨hlen,ns1,_,KV.merge r2 r1,hm1⟩),rfl,q⟩
def updD:D->List D->Option D
|.dic kvs,[.dic more]=>if kvs.length+more.length<=sizeLine then some (.dic (mG kvs more))else none
|_,_=>none
theorem E3{K:W.Frag}:eO K yz updD:=by
 intro G H a d vs ds d' Q gk ow rs e q;unfold updD at e;split at e
 .split at e
  .rename_i kvs more hl;cases e;cases ow.ob with
  |dic r s=>cases rs with
   |cons r1 t=>
     cases t;have hb:∃b ps,_=V.ref b/\Rd H b (.dK ps)/\dE K G ps more:=r1.dic gk;obtain⟨b,ps,rfl,hb,rb⟩:=hb;have hab:a≠b:=by
      rintro rfl
      cases r1 with
     |scl s=>cases s
     |ref z=>rw[ow.un]at z;cases z
     |kc k=>cases k
     have l1:=Paired.length s;have l2:=Paired.length rb;exact⟨a,b,_,ps,rfl,rfl,hab,r,hb,by omega,q _ (.dic bO (Es rb s))⟩
  .cases e
 .cases e
def Cs:V->List V->Hp->VK->Prop:=fun x vs H Q=>∃d kvs,x=.ref d/\vs=[]/\Rd H d (.dK kvs)/\∀p,H p=none->Q (.ref p) (upd H p (.ext fun h=>h.IsValuesView p d))
theorem HE:fI X "dict.values" Cs:=by
 intro pz s σ H x vs v us Q I rx rv h;obtain⟨d,kvs,rfl,rfl,hd,q⟩:=h;cases rx;cases rv;obtain⟨z1,ns1,vs1,r1,dd1⟩:=(show bx X.prog X.w H s.heap d (.dK kvs)from hd.ok I.hok)
 refine call_meetsIn Oq dd1.typeIs PySem.F.entry_dict_values (PySem.F.args_dict_values_1 _) (meets_dict_values (eu X.prog X.w) d ns1) ⟨⟨vs1,dd1⟩,?_⟩;refine⟨.ref s.heap.objs.size,_,I.laid (t':=s.toks) (o:=.ext fun h=>h.IsValuesView s.heap.objs.size d) (fun b ob e=>e_ _ e) (q_ _) ?_,rfl,q _ (I.hok.fresh (q_ _))⟩;refine⟨⟨_,y_ _ rfl,rfl,rfl⟩,⟨_,y_ _ rfl⟩,fun h1 h2 hv hk=>?_⟩;obtain⟨ob,e,c⟩:=hv;exact⟨ob,hk ob e,c⟩
theorem JS(hc:X.calm=true):dW X (.type "list") (fun xs H Q=>∃p d kvs,xs=[.ref p]/\H p=some (.ext fun h=>h.IsValuesView p d)/\Rd H d (.dK kvs)/\∀l,H l=none->Q (.ref l) (upd H l (.lst (kvs.map (·.2))))):=by
 intro pz s σ H xs us Q I r h;obtain⟨p,d,kvs,rfl,hp,hd,q⟩:=h;obtain⟨u,rfl,rx⟩:=fN r;cases rx;obtain⟨hv,_,_⟩:=(show bx X.prog X.w H s.heap p (.ext fun h=>h.IsValuesView p d)from I.hok p _ hp)
 obtain⟨z1,ns1,vs1,r1,dd1⟩:=(show bx X.prog X.w H s.heap d (.dK kvs)from hd.ok I.hok)
 obtain⟨ep,hat⟩:=dd1.dictAt;have l1:=Paired.length r1;refine W.kdl_call (W.kdl_values (knd:=eu X.prog X.w) (kvs:=vs1) (ep:=ep)) (I.ok.hd hc) ⟨hv,hat⟩ (by omega) fun h' tk acc c' kp hS hacc=>?_;have hvals:ak (kvs.map (·.2)) acc.toList:=by refine tJ (by have h1:=hacc.1;have h2:acc.toList.length=acc.size:=LZ;rw[l_];omega) fun j v u e1 e2=>?_;obtain⟨k,hk⟩:=hacc.2 j u (by rw[<-MJ];exact e2);rw[x_]at e1;cases e3:kvs[j]? with
 |none=>rw[e3]at e1;cases e1
 |some kv=>rw[e3]at e1;cases e1;obtain⟨kv',e4,e5⟩:=Paired.get r1 hk;rw[e3]at e4;cases e4;exact e5.2
 refine⟨.ref s.heap.objs.size,_,I.laid (t':=tk) kp (q_ _) (show bx X.prog X.w _ h' _ (.lst (kvs.map (·.2)))from⟨by rw[l_];exact z1,acc.toList,c',hvals,by rw[Nw];exact hS⟩),rfl,q _ (I.hok.fresh (q_ _))⟩
def og:D->Option D
|.dic kvs=>some (.lst (kvs.map (·.2)))
|_=>none
theorem xJ{K:W.Frag}{G:GH}:∀{ps:List (au×V)}{kvs:List (au×D)},dE K G ps kvs->ba K G (ps.map (·.2)) (kvs.map (·.2))
|_,_,.nil=>.nil
|_,_,.cons r t=>.cons r.2 (xJ t)
theorem xO(hc:X.calm=true)(hg:Gl X "list")(hm:X.mg "list" = none)(ho:SB X g m o fo)(hbase:Mo o "values" X.env (eval o X.env)=eval o X.env:=by rfl)(hline:(apos.endLine==cpos.line)=true:=by rfl)(hs2:m_ [.Call (.Attribute o "values" apos) [] [] cpos] X.env=(false,eval (.Call (.Attribute o "values" apos) [] [] cpos) X.env)::m_ [] X.env:=by rfl):SO X g m (.Call (.Name "list" pos') [.Call (.Attribute o "values" apos) [] [] cpos] [] pos) (f1 fo og):=by
 refine PE.imp (m4 (JS hc) hg hm rfl (gb (xo OE Oq PySem.F.type_dict_values HE ho hbase hline) iU hs2) (by decide) (by decide) hs2 rfl) fun σ H Q ⟨r,G,si,q⟩=>⟨r,G,si,a9 (aU q) fun d q1 v G1 H1 w1 r1=>?_⟩
 obtain⟨d',e,q2⟩:=cv q1;cases d with
|dic kvs=>
  cases e;obtain⟨a,ps,rfl,hs,rs⟩:=r1.dic w1.ok;refine⟨.inr (.inr (.inl ⟨rfl,.inl ⟨ps,hs⟩⟩)),a,ps,rfl,rfl,hs,fun p hp=>⟨p,a,ps,rfl,bO,?_,fun l hl=>?_⟩⟩
  .exact Rd.mono hs fun a o e=>q9 hp _ _ e
  .obtain⟨hl1,hl2⟩:=xf hl;have w2:=Grow.new w1.ok hp (.ext fun h=>h.IsValuesView p a);have w3:=Grow.new w2.ok hl (.lst (ps.map (·.2)));exact q2 l G1 _ (w1.trans (w2.trans w3)) (w1.back hl1) ⟨w1.ok.isN hl1,.lst bO (xJ rs)⟩
|_=>cases e
end
def df:Nat->List D->List D
|_,[]=>[]
|i,d::ds=>.tup [.int i,d]::df (i+1) ds
theorem rX:∀(i:Nat)(ds:List D),(df i ds).length=ds.length
|_,[]=>rfl
|i,d::ds=>congrArg (· + 1) (rX (i+1) ds)
theorem zj:∀(i j:Nat)(ds:List D),(df i ds)[j]? = (ds[j]?).map fun d=>D.tup [.int ((i+j:Nat):Int),d]
|_,_,[]=>by simp[df]
|i,0,d::ds=>by simp[df]
|i,j+1,d::ds=>by show(df (i+1) ds)[j]? = _;rw[zj (i+1) j ds];simp only[List.getElem?_cons_succ];rw[show i+1+j=i+(j+1)by omega]
def nL(f:FE):FI:=fun r=>(f r).bind fun d=>(bH (bv d)).bind fun ds=>.ok (df 0 ds)
section
variable{X:Cx}{g:GE}{m:List Md}{e a:Expr}{f:FE}{pos p pos2:Pos}{elts:List Expr}{kk:Nat}
theorem Fo{te:TE}(hg:Gl X "enumerate")(hm:X.mg "enumerate" = none)(he:PE X e te)(hs:m_ [e] X.env=(false,eval e X.env)::m_ [] X.env:=by rfl):PI X (.Tuple elts kk pos2) (.Call (.Name "enumerate" p) [e] [] pos) (fun σ H R=>te σ H fun x H1=>(∃a,x=.ref a/\(∃xs,aO X.K H1 a xs)/\R (kY fun H xs=>aO X.K H a xs) H1)\/∃a,x=.ref a/\(∃xs,bF X.K H1 a xs)/\R (kY fun H xs=>bF X.K H a xs) H1):=by
 intro pz s σ H R I h;refine Call_ (jy I hg hm boot_enumerate (Lf (aH (gb he iU hs pos pz s σ H (fun vs H1=>match vs with
 |[x]=>(∃a,x=.ref a/\(∃xs,aO X.K H1 a xs)/\R (kY fun H xs=>aO X.K H a xs) H1)\/∃a,x=.ref a/\(∃xs,bF X.K H1 a xs)/\R (kY fun H xs=>bF X.K H a xs) H1
 |_=>False) I h) fun us s1 ⟨vs,H1,I1,r1,q1⟩=>?_) hs rfl))
 .cases r1 with
 |nil=>exact q1.elim
 |@cons x u xs us rx rt=>cases rt with
 |cons _ _=>exact q1.elim
 |nil=>
  have fin:∀{h':Heap},h'.objs.size=s1.heap.objs.size+2->(∀b o,s1.heap.get? b=some o->h'.get? b=some o)->∀b∈[s1.heap.objs.size+1,s1.heap.objs.size],cO X pz H1 b:=fun hz kp b hb=>by
   have hge:s1.heap.objs.size<=b:=by
    rcases z_.mp hb with rfl|hb
    .exact Qs _
    .rw[t_.mp hb];exact q_ _
   exact I1.fpOk hge (I1.hok.fresh hge)
  rcases q1 with⟨a,rfl,⟨xs,hq⟩,q⟩|⟨a,rfl,⟨xs,hq⟩,q⟩
  .cases rx;obtain⟨its,rv,pl,hz⟩:=I1.list hq;refine call_enumerate_list pl.isList fun h' he hi hsz kp=>Nm he ?_;exact⟨_,[s1.heap.objs.size+1,s1.heap.objs.size],_,_,H1,rfl,I1.kept (t':=s1.toks) kp,IK a _ _ (KL (Mt _)),⟨⟨_,he⟩,hi⟩,fin hsz kp,q⟩
  .cases rx;obtain⟨its,rv,pl,hz⟩:=I1.tuple hq;refine JP (show s1.heap.IsTuple a its.toArray from pl) fun h' he hi hsz kp=>Nm he ?_;exact⟨_,[s1.heap.objs.size+1,s1.heap.objs.size],_,_,H1,rfl,I1.kept (t':=s1.toks) kp,IL a _ _ (KL (Mt _)),⟨⟨_,he⟩,hi⟩,fin hsz kp,q⟩
end
theorem xY:∀a b:List Int,HT.bC a b=bT a b
|[],[]=>rfl
|[],_::_=>rfl
|_::_,[]=>rfl
|x::xs,y::ys=>by rw[HT.de,bT,xY xs ys]
inductive TupI(h:Heap):a_->List Int->Prop where
 |mk {a:Addr} {items:Array a_} {ns:List Int}:PN h a items->MU items.toList ns->TupI h (.ref a) ns
theorem Jo:∀(xs ys:List Int),((h_ (min xs.length ys.length)).all (fun j=>decide (xs.getD j 0=ys.getD j 0))&&xs.length==ys.length)=decide (xs=ys):=by
 intro xs ys;rw[Kv,Kt,LO,beq_iff_eq,decide_eq_true_iff];constructor
 .rintro⟨h1,h2⟩
  refine Qg h2 fun i a b=>?_;have:=h1 i (s_.mpr (by omega));simp only[decide_eq_true_eq]at this;simpa[A_,a,b]using this
 .rintro rfl
  exact⟨fun i _=>by simp,rfl⟩
theorem Fg{A:KM}{s:f_}{p q:a_}{k l:List Int}(hp:TupI s.heap p k)(hq:TupI s.heap q l)(hu:A.units<Mq):PD A s p q (decide (k=l)):=by cases hp with
|@mk a ia _ ha ia'=>cases hq with
 |@mk b ib _ hb ib'=>
   by_cases e:a=b
   .subst e;obtain⟨o,h1,h2,n,h3⟩:=ha;obtain⟨o',h1',h2',n',h3'⟩:=hb;rw[h1]at h1';cases h1';rw[h3]at h3';cases h3';have:k=l:=by have z1:=ia';have z2:=ib';exact(RH z1).symm.trans (RH z2)
    subst this;rw[decide_eq_true rfl];exact Qu _
   .have l1:=ia'.length;have l2:=ib'.length;rw[LZ]at l1 l2;have key:=SeqAt.RcAt.tuples (A:=A) (s:=s) (e:=fun j=>decide (k.getD j 0=l.getD j 0)) (show s.heap.IsTuple a ia from ha) (show s.heap.IsTuple b ib from hb) hu (fun j h1 h2=>by
     obtain⟨t,e1⟩:=QT ia' j ia[j] (by rw[MJ];simp[h1]);obtain⟨t',e2⟩:=QT ib' j ib[j] (by rw[MJ];simp[h2]);rw[e1,e2];have:=NV (A:=A.in1) (s:=s) (k.getD j 0) t (l.getD j 0) t';have e:(k.getD j 0==l.getD j 0)=decide (k.getD j 0=l.getD j 0):=by rw[Kv];simp
     rw[e]at this;exact this)
    rw[l1,l2,Jo]at key;exact SeqAt.EqAt.of_refs e key
inductive TupsI(h:Heap):List a_->List (List Int)->Prop where
 |nil:TupsI h [] []
 |cons {p:a_} {k:List Int} {ps:List a_} {ks:List (List Int)}:TupI h p k->TupsI h ps ks->TupsI h (p::ps) (k::ks)
theorem TupsI.length{h:Heap}:∀{ps:List a_}{ks:List (List Int)},TupsI h ps ks->ps.length=ks.length
|_,_,.nil=>rfl
|_,_,.cons _ t=>congrArg (· + 1) t.length
section
variable{prog:E_}{w:Kz}{A:KM}{s:f_}
theorem CT{fin:Bool}{Q:Bool->f_->Prop}(hu:A.units<Mq){ps qs:List a_}{ks ls:List (List Int)}{i:Nat}(h1:TupsI s.heap ps ks)(h2:TupsI s.heap qs ls)(h:Q (fE fin ks ls) s):W.KatLex prog w A false fin Q (ps.zip qs) i s:=by induction h1 generalizing qs ls i with
|nil=>cases h2 <;> exact W.kat_nil h
|@cons p k ps ks hp tp ih=>cases h2 with
 |nil=>exact W.kat_nil h
 |@cons q l qs ls hq tq=>
   refine W.kat_cons (Fg hp hq hu prog w _ _ ?_);by_cases e:k=l
   .rw[decide_eq_true e];have h':Q (fE fin ks ls) s:=by unfold fE at h;rw[if_pos e]at h;exact h
    exact W.kat_yes (ih tq h')
   .rw[decide_eq_false e];have h':Q (bT k l) s:=by unfold fE at h;rw[if_neg e]at h;exact h
    refine W.kat_no ?_;rw[QI];refine W.kat_one _ _ ?_;cases hp with
   |mk ha ia=>cases hq with
    |mk hb ib=>refine HT.fD ha hb ia ib hu ?_;rw[xY];exact h'
inductive TupR(h:Heap):a_->List (List Int)->Prop where
 |mk {a:Addr} {items:List a_} {ks:List (List Int)}:PN h a items.toArray->TupsI h items ks->ks≠[]->TupR h (.ref a) ks
theorem Fz{p q:a_}{ks ls:List (List Int)}{Q:Bool->f_->Prop}{E:a_->f_->Prop}(hp:TupR s.heap p ks)(hq:TupR s.heap q ls)(hu:A.units<Mq)(h:Q (ca ks ls) s):C_ (H_ prog w) A (keyLt' (tuples' false) p q) Q E s:=by cases hp with
|@mk _ items _ ha ta hna=>cases hq with
 |@mk _ items_1 _ hb tb hnb=>
   obtain⟨o,h1,h2,n,h3⟩:=ha;obtain⟨o',h1',h2',n',h3'⟩:=hb;refine W.kat_lt h1 h3 h1' h3' ?_;have e:decide (items.toArray.size<items_1.toArray.size)=decide (ks.length<ls.length):=by rw[n_,n_,ta.length,tb.length]
   rw[e];exact CT hu (by simpa using ta) (by simpa using tb) h
end
def iy:List D->Option (List Int)
|[]=>some []
|.int i::ds=>(iy ds).map (i::·)
|_=>none
theorem ze{K:W.Frag}{G:GH}{H:Hp}(gk:aC K G H){ds:List D}{xs:List V}{ns:List Int}(h:ba K G xs ds)(e:iy ds=some ns):xs=ns.map V.int:=by induction h generalizing ns with
|nil=>cases e;rfl
|@cons x d xs ds r t ih=>cases d with
 |int i=>have e':(iy ds).map (i::·)=some ns:=e;cases q:iy ds with
  |none=>rw[q]at e';cases e'
  |some ms=>rw[q]at e';cases e';rw[r.int gk,ih q];rfl
 |_=>cases e
def nN(K:W.Frag)(H:Hp)(x:V)(k:List Int):Prop:=∃b,x=.ref b/\bF K H b (k.map V.int)
def l7(K:W.Frag)(H:Hp)(x:V)(ks:List (List Int)):Prop:=∃b xs,x=.ref b/\bF K H b xs/\Paired (nN K H) xs ks/\ks≠[]
def jt{α:Type}(d:α)(ys:List α)(kss:List (List (List Int))):List α:=(gC ys.length fun i j=>ca (kss.getD i []) (kss.getD j [])).map fun i=>ys.getD i d
theorem bx.isS{P:E_}{w:Kz}{H:Hp}{h:Heap}{a:Addr}{o:HO}(x:bx P w H h a o):h.get? a≠none:=by
 have s:∀{u:Obj},h.get? a=some u->h.get? a≠none:=fun e z=>by rw[z]at e;cases e
 cases o with
|lst xs=>obtain⟨_,_,_,_,e⟩:=x;exact s e
|tup xs=>obtain⟨_,_,_,⟨_,e,_⟩,_⟩:=x;exact s e
|dK kvs=>obtain⟨_,_,_,_,o,_,_,e,_⟩:=x;exact s e
|dT kvs=>obtain⟨_,_,_,_,o,_,_,e,_⟩:=x;exact s e
|set S n=>obtain⟨o,_,_,_,e,_⟩:=x;exact s e
|ins C dx fs=>obtain⟨_,_,_,e,_⟩:=x;exact s e
|own y=>obtain⟨_,e⟩:=x;exact s e
|xd fs=>obtain⟨_,⟨_,_,_,e,_⟩,_⟩:=x;exact s e
|rng lo hi=>obtain⟨_,_,_,e⟩:=x;exact s e
|frz ob u=>obtain⟨e,_⟩:=x;exact s e
|tbl ps=>exact s (show h.get? a=some _ from x)
|met f y=>exact s (show h.get? a=some _ from x)
|ext φ=>obtain⟨_,⟨_,e⟩,_⟩:=x;exact s e
section
variable{X:Cx}{pz:List (Addr×Obj)}{σ:L2.St}{H:Hp}{s:f_}
theorem TupI.stay{h h':Heap}{L:Addr}{mm:Str->Option a_}(hL:h.Ns L mm)(k:∀b o,b≠L->h.get? b=some o->h'.get? b=some o){p:a_}{ns:List Int}(x:TupI h p ns):TupI h' p ns:=by cases x with
|mk ht hi=>
  obtain⟨o,h1,h2,n,h3⟩:=ht;refine .mk ⟨o,k _ _ ?_ h1,h2,n,h3⟩ hi
  rintro rfl
  obtain⟨o',es,ep,e,d,_⟩:=hL;rw[h1]at e;cases e;rw[h3]at d;cases d
theorem TupsI.stay{h h':Heap}{L:Addr}{mm:Str->Option a_}(hL:h.Ns L mm)(k:∀b o,b≠L->h.get? b=some o->h'.get? b=some o):∀{ps:List a_}{ks:List (List Int)},TupsI h ps ks->TupsI h' ps ks
|_,_,.nil=>.nil
|_,_,.cons x t=>.cons (x.stay hL k) (t.stay hL k)
theorem TupR.stay{h h':Heap}{L:Addr}{mm:Str->Option a_}(hL:h.Ns L mm)(k:∀b o,b≠L->h.get? b=some o->h'.get? b=some o){p:a_}{ks:List (List Int)}(x:TupR h p ks):TupR h' p ks:=by cases x with
|mk ht hi hn=>
  obtain⟨o,h1,h2,n,h3⟩:=ht;refine .mk ⟨o,k _ _ ?_ h1,h2,n,h3⟩ (hi.stay hL k) hn
  rintro rfl
  obtain⟨o',es,ep,e,d,_⟩:=hL;rw[h1]at e;cases e;rw[h3]at d;cases d
theorem Fh(I:Inv X pz σ H s){x:V}{k:List Int}{u:a_}(h:nN X.K H x k)(r:L2.aq x u):TupI s.heap u k:=by obtain⟨b,rfl,hq⟩:=h;cases r;obtain⟨its,rv,pl,_⟩:=I.tuple hq;exact .mk pl (by simpa using Il rv)
theorem Gx(I:Inv X pz σ H s){xs:List V}{ks:List (List Int)}{us:List a_}(h:Paired (nN X.K H) xs ks)(v:ak xs us):TupsI s.heap us ks:=by induction h generalizing us with
|nil=>cases v;exact .nil
|cons h _ ih=>cases v with
 |cons r q=>exact .cons (Fh I h r) (ih q)
theorem Fi(I:Inv X pz σ H s){x:V}{ks:List (List Int)}{u:a_}(h:l7 X.K H x ks)(r:L2.aq x u):TupR s.heap u ks:=by obtain⟨b,xs,rfl,hq,hp,hn⟩:=h;cases r;obtain⟨its,rv,pl,_⟩:=I.tuple hq;exact .mk pl (Gx I hp rv) hn
theorem Au{ys:List V}{us:List a_}(r:ak ys us):∀(ix:List Nat),(∀i∈ix,i<ys.length)->ak (ix.map fun i=>ys.getD i .non) (ix.map fun i=>us.getD i Value.none)
|[],_=>.nil
|i::ix,h=>by
  refine .cons ?_ (Au r ix fun j hj=>h j (k_ _ hj));have hi:=h i j_;obtain⟨u,h1,h2⟩:=r.get (i:=i) (x:=ys[i]) (d_ hi);have e1:ys.getD i .non=ys[i]:=by simp[A_,hi]
  have e2:us.getD i Value.none=u:=by rw[A_,h1];rfl
  show L2.aq (ys.getD i .non) (us.getD i Value.none);rw[e1,e2];exact h2
theorem Inv.laidN{D:Addr}{ys:List V}{its:List a_}{c:Nat}{h':Heap}(I:Inv X pz σ H s)(hD:s.heap.get? D=none)(hDL:D≠X.env.locals)(k:∀b o,b≠X.env.locals->s.heap.get? b=some o->h'.get? b=some o)(hns:∀m,s.heap.Ns X.env.locals m->h'.Ns X.env.locals m)(ho:h'.get? D=some { cls:=.type "list",data:=.seq its.toArray c })(rv:ak ys its)(hz:ys.length<=sizeLine)(t':Nat):Inv X pz σ (upd H D (.lst ys)) { s with heap:=h',toks:=t' }:=by
 have hHD:H D=none:=by cases q:H D with
 |none=>rfl
 |some u=>exact absurd hD (bx.isS (I.hok D u q))
 have neD:∀b o,s.heap.get? b=some o->b≠D:=fun b o e z=>by rw[z,hD]at e;cases e
 have keepU:∀b u,H b=some u->upd H D (.lst ys) b=some u:=fun b u e=>by rw[bg (i3 e hHD)];exact e
 have trkL:∀b u,H b=some u->b≠X.env.locals:=fun b u e z=>by rw[z,I.free]at e;cases e
 refine I.step (g':=s.gens) (d':=s.drawn) (ch:=[]) (fun b hb=>absurd hb (by simp)) (fun b ob hL _ _ e _=>k b ob hL e) (fun b ob hL _ _ e _=>⟨ob.slots,k b ob hL e⟩) (fun b ob _ e n=>by rw[bg (neD b ob e)];exact n)
  (fun b ob _ e=>?_) (fun b xs e=>keepU b _ e) (fun b ob u e=>keepU b _ e) (fun b ps e=>⟨#[],by rw[keepU b _ e];simp⟩) hns (fun b u e=>?_) I.bare
 .by_cases hb:b=X.env.locals
  .subst hb;obtain⟨m,hn,_⟩:=I.loc;obtain⟨o,_,_,ho',_⟩:=hns m hn;exact⟨o,ho'⟩
  .exact⟨ob,k b ob hb e⟩
 .by_cases hb:b=D
  .subst hb;rw[bO]at e;cases e;exact⟨hz,its,c,rv,ho⟩
  .rw[bg hb]at e;refine(I.hok b u e).stay (fun cc v hc q=>k cc v ?_ q) (fun cc q=>keepU cc _ q) fun cc xs q=>keepU cc _ q;rcases hc with z|z
   .rw[z];exact trkL b u e
   .exact trkL cc _ z
theorem Ew{h:Heap}{L:Addr}{m m':Str->Option a_}(a:h.Ns L m)(b:h.Ns L m'):m=m':=by obtain⟨o,es,ep,e,d,_,f⟩:=a;obtain⟨o',es',ep',e',d',_,f'⟩:=b;rw[e]at e';cases e';rw[d]at d';cases d';funext x;rw[<-f,<-f']
theorem yS{h:Heap}:∀{us:List a_}{kss:List (List (List Int))},Paired (fun u ks=>TupR h u ks) us kss->∃fs,W.KatTups h us fs/\fs.length=us.length/\∀f∈fs,∃b o,f=Value.ref b/\h.get? b=some o/\o.cls=.type "tuple"
|_,_,.nil=>⟨[],W.KatTups.nil,rfl,fun f hf=>nomatch hf⟩
|_,_,.cons x t=>by obtain⟨fs,h1,h2,h3⟩:=yS t;cases x with
 |@mk a items ks ht hi hn=>cases hi with
  |nil=>exact absurd rfl hn
  |@cons p k ps ks hp _=>
    obtain⟨o,e1,e2,n,e3⟩:=ht;refine⟨p::fs,W.KatTups.cons e1 e2 e3 (by simp) h1,by simp[h2],fun f hf=>?_⟩;rcases z_.mp hf with rfl|hf
    .cases hp with
    |mk hb _=>obtain⟨ob,q1,q2,_⟩:=hb;exact⟨_,ob,rfl,q1,q2⟩
    .exact h3 f hf
theorem Gw(I:Inv X pz σ H s){ys:List V}{kss:List (List (List Int))}{us:List a_}(h:Paired (l7 X.K H) ys kss)(v:ak ys us):Paired (fun u ks=>TupR s.heap u ks) us kss:=by induction h generalizing us with
|nil=>cases v;exact .nil
|cons h _ ih=>cases v with
 |cons r q=>exact .cons (Fi I h r) (ih q)
theorem m7{n:Nat}{c:Nat->Nat->Bool}{i:Nat}(h:i∈gC n c):i<n:=s_.mp ((tv n c).mem_iff.mp h)
theorem Jp{k:Nat}(hr:Room k X.A):dW X (.builtin "sorted") (fun xs H Q=>∃p ys kss,xs=[.ref p]/\aO X.K H p ys/\Paired (l7 X.K H) ys kss/\ys.length<64/\∀l,H l=none->Q (.ref l) (upd H l (.lst (jt .non ys kss)))):=by
 intro pz s σ H xs us Q I r h;obtain⟨p,ys,kss,rfl,hq,hk,h64,q⟩:=h;obtain⟨u,rfl,rx⟩:=fN r;cases rx;obtain⟨its,rv,pl,hz⟩:=I.list hq;have hl:=rv.length;have hkl:=Paired.length hk;by_cases h2:its.length<2
 .refine JA pl.isList h2 fun h' c D kp hD ho=>?_;have hs:s.heap.get? D=none:=Pc hD;refine⟨.ref D,_,Inv.laidN I hs (KL (F_ I.lt hD)) (fun b o _ e=>kp b o e) (fun m ⟨o,es,ep,e,z⟩=>⟨o,es,ep,kp _ _ e,z⟩) ho rv (by omega) s.toks,rfl,?_⟩;have e:jt V.non ys kss=ys:=by unfold jt gC;rw[if_pos (by omega)];refine Qg (by simp) fun i a b=>?_;simp[A_,b]
  have:=q D (I.hok.fresh hD);rw[e]at this;exact this
 .obtain⟨mF,F⟩:=I.fr;have trs:=Gw I hk rv;refine W.kat_sorted F (GO (g:=X.base) (h:=s.heap) (L:=X.env.locals)) pl.isList (by omega) (by omega) fun D e1 h' F' N' hlt=>?_;have hDs:s.heap.get? D=none:=by cases z:s.heap.get? D with
  |none=>rfl
  |some o=>have zn:=(N' _ (j_)).2;exact absurd (hlt (D,o) (Ay zn.1 zn.2 z)) (K_ _)
  have keepN:∀{h2:Heap}{oD:Obj},Fr X.base X.env.locals h2 mF->News X.base X.env.locals h2 ((D,oD)::mR X.base s.heap X.env.locals)->∀b o,b≠X.env.locals->s.heap.get? b=some o->h2.get? b=some o:=fun{h2 oD} F2 N2 b o hb e=>by cases z:X.base.get? b with
  |some o'=>have:=I.bk b o' z;rw[e]at this;cases this;exact F2.keep b o z
  |none=>exact(N2 (b,o) (k_ _ (Ay hb z e))).1
  have k1:=keepN F' N';have trs':Paired (fun u ks=>TupR h' u ks) its kss:=Paired.mono (fun _ _ x=>x.stay F.ns k1) trs;obtain⟨fs,t1,t2,t3⟩:=yS trs';refine W.kat_kind (T:=.type "tuple") t1 (by omega) (fun v hv=>?_) (by decide) ?_
  .obtain⟨b,o,rfl,e1,e2⟩:=t3 v hv;rw[<-e2];exact(W.Looks.ld e1).andThen .now
  have hn:0<its.length:=by omega
  refine HS (n:=its.length) (c:=fun i j=>ca (kss.getD i []) (kss.getD j [])) (fun i j C hi hj hC=>?_) (z9 hn) ?_
  .have gi:∀i,i<its.length->TupR h' (its.getD i Value.none) (kss.getD i []):=fun i hi=>by
    have hki:i<kss.length:=by omega
    obtain⟨a,ha,hx⟩:=Paired.get trs' (d_ hki);rw[A_,ha,A_,d_ hki];exact hx
   exact Fz (gi i hi) (gi j hj) (by have:=hr.un;show X.A.units+1+1<Mq;omega) hC
  .refine W.KasFin.intro F' N' (.head fun q hq z=>?_) fun h3 c F3 N3=>?_
   .have:=hlt q hq;rw[z]at this;exact K_ _ this
   .have oD:=(N3 _ j_)
    have hix:∀i∈gC ys.length (fun i j=>ca (kss.getD i []) (kss.getD j [])),i<ys.length:=fun i hi=>m7 hi;have e0:(kasRun (fun i j=>ca (kss.getD i []) (kss.getD j [])) (W.kas_sort its.length)).toList=gC ys.length (fun i j=>ca (kss.getD i []) (kss.getD j [])):=by unfold gC;rw[if_neg (by omega),hl]
    rw[e0]at oD;refine⟨.ref D,_,Inv.laidN (t':=_) (its:=(gC ys.length fun i j=>ca (kss.getD i []) (kss.getD j [])).map fun i=>its.getD i Value.none) I hDs oD.2.1 (keepN F3 N3) (fun m hm=>by rw[Ew hm F.ns];exact F3.ns) oD.1 (Au rv _ hix) ?_,rfl,q D ?_⟩
    .have:=(tv ys.length fun i j=>ca (kss.getD i []) (kss.getD j [])).length_eq;rw[l_,this,K3];omega
    .cases z:H D with
    |none=>rfl
    |some u=>exact absurd hDs (bx.isS (I.hok D u z))
end
def jx:D->Option (List Int)
|.tup ds=>iy ds
|_=>none
def iw:List D->Option (List (List Int))
|[]=>some []
|d::ds=>(jx d).bind fun k=>(iw ds).map (k::·)
def oh:D->Option (List (List Int))
|.tup (d::ds)=>iw (d::ds)
|_=>none
def jC:List D->Option (List (List (List Int)))
|[]=>some []
|d::ds=>(oh d).bind fun k=>(jC ds).map (k::·)
def mq:List D->Option D
|[.lst ds]=>(jC ds).bind fun kss=>if ds.length<64 then some (.lst (jt .non ds kss))else none
|_=>none
section
variable{K:W.Frag}{G:GH}{H:Hp}
theorem DI(gk:aC K G H){v:V}{d:D}{k:List Int}(r:RG K G v d)(e:jx d=some k):nN K H v k:=by cases d with
|tup ds=>obtain⟨a,xs,rfl,s,rs⟩:=r.tup gk;have:=ze gk rs e;subst this;exact⟨a,rfl,s⟩
|_=>cases e
theorem Fd(gk:aC K G H){ds:List D}{xs:List V}{ks:List (List Int)}(h:ba K G xs ds)(e:iw ds=some ks):Paired (nN K H) xs ks:=by induction h generalizing ks with
|nil=>cases e;exact .nil
|@cons x d xs ds r t ih=>have e':(jx d).bind (fun k=>(iw ds).map (k::·))=some ks:=e;cases e1:jx d with
 |none=>rw[e1]at e';cases e'
 |some k=>rw[e1]at e';cases e2:iw ds with
  |none=>rw[e2]at e';cases e'
  |some ks'=>rw[e2]at e';cases e';exact .cons (DI gk r e1) (ih e2)
theorem Gy{d:D}{ds:List D}{ks:List (List Int)}(e:iw (d::ds)=some ks):ks≠[]:=by have e':(jx d).bind (fun k=>(iw ds).map (k::·))=some ks:=e;cases e1:jx d with
|none=>rw[e1]at e';cases e'
|some k=>rw[e1]at e';cases e2:iw ds with
 |none=>rw[e2]at e';cases e'
 |some ks'=>rw[e2]at e';cases e';simp
theorem DJ(gk:aC K G H){v:V}{d:D}{ks:List (List Int)}(r:RG K G v d)(e:oh d=some ks):l7 K H v ks:=by cases d with
|tup ds=>cases ds with
 |nil=>cases e
 |cons d ds=>obtain⟨a,xs,rfl,s,rs⟩:=r.tup gk;exact⟨a,xs,rfl,s,Fd gk rs e,Gy e⟩
|_=>cases e
theorem Fe(gk:aC K G H){ds:List D}{xs:List V}{ks:List (List (List Int))}(h:ba K G xs ds)(e:jC ds=some ks):Paired (l7 K H) xs ks:=by induction h generalizing ks with
|nil=>cases e;exact .nil
|@cons x d xs ds r t ih=>have e':(oh d).bind (fun k=>(jC ds).map (k::·))=some ks:=e;cases e1:oh d with
 |none=>rw[e1]at e';cases e'
 |some k=>rw[e1]at e';cases e2:jC ds with
  |none=>rw[e2]at e';cases e'
  |some ks'=>rw[e2]at e';cases e';exact .cons (DJ gk r e1) (ih e2)
theorem zw{xs:List V}{ds:List D}(r:ba K G xs ds):∀(ix:List Nat),(∀i∈ix,i<ds.length)->ba K G (ix.map fun i=>xs.getD i .non) (ix.map fun i=>ds.getD i .non)
|[],_=>.nil
|i::ix,h=>by refine .cons ?_ (zw r ix fun j hj=>h j (k_ _ hj));have hi:=h i j_;obtain⟨u,h1,h2⟩:=Paired.get r (d_ hi);show RG K G (xs.getD i .non) (ds.getD i .non);rw[A_,h1,A_,d_ hi];exact h2
end
section
variable{X:Cx}{g:GE}{m:List Md}{a:Expr}{fl:al->Res (List D)}{pos p:Pos}{k:Nat}
theorem y0(hr:Room k X.A)(hg:Gl X "sorted")(hm:X.mg "sorted" = none)(ha:gS X g m [a] fl)(hs:m_ [a] X.env=(false,eval a X.env)::m_ [] X.env:=by rfl):SO X g m (.Call (.Name "sorted" p) [a] [] pos) (fC fl mq):=by
 refine wH (R:=fun xs H Q=>∃p ys kss,xs=[.ref p]/\aO X.K H p ys/\Paired (l7 X.K H) ys kss/\ys.length<64/\∀l,H l=none->Q (.ref l) (upd H l (.lst (jt .non ys kss)))) ?_ (mV (Jp hr) hg hm (by first|exact Rm|rfl) ha (by decide) (by decide) hs rfl);intro G H vs ds d Q gk rs e q;unfold mq at e;split at e
 .rename_i zs;cases ek:jC zs with
 |none=>rw[ek]at e;cases e
 |some kss=>
   rw[ek]at e;have e':(if zs.length<64 then some (D.lst (jt .non zs kss))else none)=some d:=e;by_cases h64:zs.length<64
   .rw[if_pos h64]at e';cases e';cases rs with
   |cons r1 t=>cases t;obtain⟨b,xs,rfl,s,r⟩:=r1.lst gk;have hl:=Paired.length r;refine⟨b,xs,kss,rfl,s,Fe gk r ek,by omega,fun l hl'=>q l G _ (Grow.new gk hl' _) hl' ⟨gk.isN hl',.lst bO ?_⟩⟩;unfold jt;rw[hl];exact zw r _ fun i hi=>m7 hi
   .rw[if_neg h64]at e';cases e'
 .cases e
end
end DL
namespace DL
open PySem PyProof.Rows PySem.SeqAt PySem.MeetsSeq PySem.MeetsSeq2 PySem.MeetsSeq3 L2
section
open PySem.AutoSeq1 (wpAny_loadPart')
end
end DL
namespace DL
open PySem PyProof.Rows L2
section
variable{prog:E_}{w:Kz}{A:KM}{E:a_->f_->Prop}{s:f_}
def kW(h:Heap)(u:a_)(ns:List Int):Prop:=∃a its,u=.ref a/\h.IsList a its/\MU its.toList ns
end
end DL
namespace DL
open PySem PySem.Spec PyProof.Rows L2
section
variable{X:Cx}{pz:List (Addr×Obj)}{σ:L2.St}{H:Hp}{s:f_}
theorem kW.stay{h h':Heap}{L:Addr}{mm:Str->Option a_}(hL:h.Ns L mm)(k:∀b o,b≠L->h.get? b=some o->h'.get? b=some o){p:a_}{ns:List Int}(x:kW h p ns):kW h' p ns:=by
 obtain⟨a,its,rfl,⟨o,h1,h2,n,h3⟩,hi⟩:=x;refine⟨a,its,rfl,⟨o,k _ _ ?_ h1,h2,n,h3⟩,hi⟩
 rintro rfl
 obtain⟨o',es,ep,e,d,_⟩:=hL;rw[h1]at e;cases e;rw[h3]at d;cases d
end
section
variable{X:Cx}{pz:List (Addr×Obj)}{σ:L2.St}{H:Hp}{s:f_}
theorem Inv.keptN{h':Heap}(I:Inv X pz σ H s)(k:∀b o,b≠X.env.locals->s.heap.get? b=some o->h'.get? b=some o)(hns:∀m,s.heap.Ns X.env.locals m->h'.Ns X.env.locals m)(t':Nat):Inv X pz σ H { s with heap:=h',toks:=t' }:=by
 have trkL:∀b u,H b=some u->b≠X.env.locals:=fun b u e z=>by rw[z,I.free]at e;cases e
 refine I.step (g':=s.gens) (d':=s.drawn) (ch:=[]) (fun b hb=>absurd hb (by simp)) (fun b ob hL _ _ e _=>k b ob hL e) (fun b ob hL _ _ e _=>⟨ob.slots,k b ob hL e⟩) (fun b ob _ e n=>n)
  (fun b ob _ e=>?_) (fun b xs e=>e) (fun b ob u e=>e) (fun b ps e=>⟨#[],by rw[e];simp⟩) hns (fun b u e=>?_) I.bare
 .by_cases hb:b=X.env.locals
  .subst hb;obtain⟨m,hn,_⟩:=I.loc;obtain⟨o,_,_,ho',_⟩:=hns m hn;exact⟨o,ho'⟩
  .exact⟨ob,k b ob hb e⟩
 .refine(I.hok b u e).stay (fun cc v hc q=>k cc v ?_ q) (fun cc q=>q) fun cc xs q=>q;rcases hc with z|z
  .rw[z];exact trkL b u e
  .exact trkL cc _ z
end
section
variable{X:Cx}{g:GE}{m:List Md}{e a b:Expr}{es:List Expr}{fl:al->Res (List D)}{fa fb:FE}{pos p:Pos}
def wQ(K:W.Frag):R2:=fun x y H Q=>∃a b ys,x=.ref a/\y=.ref b/\bF K H a []/\bF K H b ys/\Q (.ref b) H
theorem EF:aT X (ME .Add) (wQ X.K):=by
 intro pz s σ H x y v u Q I rx ry h;obtain⟨a,b,ys,rfl,rfl,ha,hb,q⟩:=h;cases rx;cases ry;obtain⟨its,r1,p1,_⟩:=I.tuple ha;obtain⟨its2,r2,p2,_⟩:=I.tuple hb;cases r1;obtain⟨⟨cls,dd,data,sl⟩,ho,hc,n,hd⟩:=id p1;obtain⟨⟨cls2,dd2,data2,sl2⟩,ho2,hc2,n2,hd2⟩:=id p2;simp only at hc hd hc2 hd2;subst hc hd hc2 hd2;exact OK ⟨_,ho,rfl⟩ ⟨_,ho2,rfl⟩ OA Pv Ng Na (M3 _ _)
  (tuple_addW0 a b _ _ n n2 dd dd2 sl sl2 rfl) ⟨ho,ho2,⟨.ref b,H,I,rfl,q⟩⟩
def addE:D->D->Option D
|.tup [],.tup b=>some (.tup b)
|a,b=>addA a b
theorem EI{K:W.Frag}:cN K (fun x y H Q=>wQ K x y H Q\/((∃i j,x=.int i/\y=.int j/\Q (.int (i+j)) H)\/(∃i j,x=.str i/\y=.str j/\i.length+j.length<=sizeLine/\Q (.str (i++j)) H)\/qH K x y H Q\/qI K x y H Q)) addE:=by
 intro G H v1 v2 d1 d2 d Q gk r1 r2 e q;unfold addE at e;split at e
 .cases e;rcases r1 with r1|⟨a',_,oo⟩
  .rcases r2 with r2|⟨a',_,oo⟩
   .obtain⟨a,xs,rfl,s1,t1⟩:=r1.tup gk;obtain⟨b,ys,rfl,s2,t2⟩:=r2.tup gk;cases t1;exact .inl ⟨a,b,ys,rfl,rfl,s1,s2,q _ G H (Grow.refl gk) r2⟩
   .cases oo.ob
  .cases oo.ob
 .exact .inr (xS G H v1 v2 d1 d2 d Q gk r1 r2 e q)
theorem re(ha:SB X g m a fa)(hb:SB X g m b fb):SE X g m (.BinOp a .Add b pos) (f2 fa fb addE):=jO (aT.or EF (aT.or xP (aT.or AM (aT.or yc yd)))) EI ha hb
end
end DL
namespace DL
open PySem PyProof.Rows L2
section
open PySem.AutoSeq1 (wpAny_loadPart')
end
end DL
namespace DL
open PySem PyProof.Rows PySem.W
abbrev aY(p:Array Nat)(i:Nat):Nat:=p.getD i 0
theorem mJ{p q:Array Nat}{i j:Nat}(h:p[i]? = q[j]?):aY p i=aY q j:=by unfold aY;rw[NR,NR,h]
section
variable{n:Nat}{c:Nat->Nat->Bool}(as:∀i j,c i j=true->c j i=false)(tr:∀i j k,c j i=false->c k j=false->c k i=false)
def Le(c:Nat->Nat->Bool)(i j:Nat):Prop:=c j i=false
def Up(c:Nat->Nat->Bool)(p:Array Nat)(k:Nat):Prop:=∀i,i+1<k->Le c (aY p i) (aY p (i+1))
def Dn(c:Nat->Nat->Bool)(p:Array Nat)(k:Nat):Prop:=∀i,i+1<k->Le c (aY p (i+1)) (aY p i)
def fY(c:Nat->Nat->Bool)(i j:Nat):Prop:=Le c i j/\Le c j i
def nV(c:Nat->Nat->Bool)(p:Array Nat)(k q:Nat):Prop:=∀i,k-(q+1)<=i->i<k->fY c (aY p i) (aY p (k-1))
theorem g0(as:∀i j,c i j=true->c j i=false)(i:Nat):Le c i i:=by unfold Le;cases e:c i i with
|false=>rfl
|true=>have:=as i i e;rw[e]at this;cases this
theorem oM(p:Array Nat):∀(f x:Nat),1<=x->x<=kasRun c (L1 p f x)/\kasRun c (L1 p f x)<=x+f/\(∀i,x<=i+1->i+1<kasRun c (L1 p f x)->Le c (aY p i) (aY p (i+1)))
|0,x,_=>⟨q_ _,q_ _,fun i h1 h2=>by have:kasRun c (L1 p 0 x)=x:=rfl;omega⟩
|f+1,x,h1=>by
  have e:kasRun c (L1 p (f+1) x)=kasRun c (if c (p.getD x 0) (p.getD (x-1) 0)=true then KasT.ret x else L1 p f (x+1)):=by rw[kas_asc.eq_2];rfl
  rw[e];cases q:c (p.getD x 0) (p.getD (x-1) 0)with
 |true=>rw[if_pos rfl];exact⟨q_ _,Qh _ _,fun i h1 h2=>by have:kasRun c (KasT.ret x)=x:=rfl;omega⟩
 |false=>
   rw[if_neg i_];obtain⟨a1,a2,a3⟩:=oM p f (x+1) (by omega);refine⟨by omega,by omega,fun i h2 h3=>?_⟩;by_cases z:i+1=x
   .have:i=x-1:=by omega
    subst this;rw[show x-1+1=x by omega];exact q
   .exact a3 i (by omega) h3
theorem Up.asc{p:Array Nat}{f x:Nat}(h1:1<=x)(h:Up c p x):Up c p (kasRun c (L1 p f x)):=by
 obtain⟨a1,a2,a3⟩:=oM (c:=c) p f x h1;intro i hi;by_cases z:i+1<x
 .exact h i z
 .exact a3 i (by omega) hi
theorem lj{p:Array Nat}{i j k:Nat}(hj:j<=p.size):aY (Nj p i j) k=if i<=k/\k<j then aY p (i+j-1-k)else aY p k:=by
 have h:=getElem?_mirror_all (xs:=p) (i:=i) hj k;by_cases z:i<=k/\k<j
 .rw[if_pos z]at h ⊢;exact mJ h
 .rw[if_neg z]at h ⊢;exact mJ h
theorem o9(p:Array Nat)(i j:Nat):(Nj p i j).size=p.size:=mirror_size p i j _
include tr in
theorem fY.trans{i j k:Nat}(h1:fY c i j)(h2:fY c j k):fY c i k:=⟨tr _ _ _ h1.1 h2.1,tr _ _ _ h2.2 h1.2⟩
theorem fY.symm{i j:Nat}(h:fY c i j):fY c j i:=⟨h.2,h.1⟩
include as tr in
theorem yC{p:Array Nat}{k q:Nat}(hk:k<=p.size)(hq:q+1<=k)(b:nV c p k q)(i:Nat):fY c (aY (Nj p (k-(q+1)) k) i) (aY p i):=by
 rw[lj hk];by_cases z:k-(q+1)<=i/\i<k
 .rw[if_pos z];exact(b _ (by omega) (by omega)).trans tr (b i z.1 z.2).symm
 .rw[if_neg z];exact⟨g0 as _,g0 as _⟩
include tr in
theorem Dn.eqv{p p':Array Nat}{k:Nat}(h:Dn c p k)(e:∀i,fY c (aY p' i) (aY p i)):Dn c p' k:=fun i hi=>tr _ _ _ (e (i+1)).1 (tr _ _ _ (h i hi) (e i).2)
include as tr in
theorem pb:∀(f:Nat)(p:Array Nat)(k q:Nat),p.size=n->q+1<=k->k+f<=n->Dn c p k->nV c p k q ->(kasRun c (L0 f p k q)).1.size=n/\(kasRun c (L0 f p k q)).2.2+1<=(kasRun c (L0 f p k q)).2.1/\(kasRun c (L0 f p k q)).2.1<=n/\Dn c (kasRun c (L0 f p k q)).1 (kasRun c (L0 f p k q)).2.1/\nV c (kasRun c (L0 f p k q)).1 (kasRun c (L0 f p k q)).2.1 (kasRun c (L0 f p k q)).2.2
|0,p,k,q,h1,h2,h3,h4,h5=>⟨h1,h2,(by show k<=n;omega),h4,h5⟩
|f+1,p,k,q,h1,h2,h3,h4,h5=>by
  have e:kasRun c (L0 (f+1) p k q)=kasRun c (if c (p.getD k 0) (p.getD (k-1) 0)=true then(if q>0 then L0 f (Nj p (k-(q+1)) k) (k+1) 0 else L0 f p (k+1) 0)
    else KasT.ask (p.getD (k-1) 0) (p.getD k 0) fun d=>if d=true then KasT.ret (p,k,q)else L0 f p (k+1) (q+1)):=by rw[kas_desc.eq_2];rfl
  rw[e];cases c1:c (p.getD k 0) (p.getD (k-1) 0)with
 |true=>
   rw[if_pos rfl];have down:∀p':Array Nat,Dn c p' k->aY p' k=aY p k->fY c (aY p' (k-1)) (aY p (k-1))->Dn c p' (k+1):=by
    intro p' d e1 e2 i hi;by_cases z:i+1=k
    .have:i=k-1:=by omega
     subst this;rw[show k-1+1=k by omega,e1];exact tr _ _ _ (as _ _ c1) e2.2
    .exact d i (by omega)
   have one:∀p':Array Nat,nV c p' (k+1) 0:=fun p' i a b=>by
    have:i=k:=by omega
    subst this;exact⟨g0 as _,g0 as _⟩
   by_cases hq:q>0
   .rw[if_pos hq];have ev:=yC as tr (by omega) h2 h5;refine pb f _ (k+1) 0 (by rw[o9];exact h1) (by omega) (by omega) (down _ (h4.eqv tr ev) ?_ (ev _)) (one _);rw[lj (by omega),if_neg (by omega)]
   .rw[if_neg hq];exact pb f p (k+1) 0 h1 (by omega) (by omega) (down p h4 rfl ⟨g0 as _,g0 as _⟩) (one _)
 |false=>rw[if_neg i_];show _/\_;have e2:kasRun c (KasT.ask (p.getD (k-1) 0) (p.getD k 0) fun d=>if d=true then KasT.ret (p,k,q)else L0 f p (k+1) (q+1))=kasRun c (if c (p.getD (k-1) 0) (p.getD k 0)=true then KasT.ret (p,k,q)else L0 f p (k+1) (q+1)):=rfl;rw[e2];cases c2:c (p.getD (k-1) 0) (p.getD k 0)with
  |true=>rw[if_pos rfl];exact⟨h1,h2,(by show k<=n;omega),h4,h5⟩
  |false=>
    rw[if_neg i_];refine pb f p (k+1) (q+1) h1 (by omega) (by omega) (fun i hi=>?_) (fun i a b=>?_)
    .by_cases z:i+1=k
     .have:i=k-1:=by omega
      subst this;rw[show k-1+1=k by omega];exact c2
     .exact h4 i (by omega)
    .have ek:fY c (aY p (k-1)) (aY p k):=⟨c1,c2⟩
     rw[show k+1-1=k by omega];by_cases z:i=k
     .subst z;exact⟨g0 as _,g0 as _⟩
     .exact(h5 i (by omega) (by omega)).trans tr ek
def qy(n:Nat)(c:Nat->Nat->Bool)(r:Nat×Array Nat):Prop:=r.2.size=n/\r.1<=n/\Up c r.2 r.1
theorem zz{p:Array Nat}{k:Nat}(hp:p.size=n)(h1:1<=k)(hk:k<=n)(d:Dn c p k):qy n c (kasRun c (Ru k n p)):=by
 unfold Ru;rw[lR];have u:Up c (Nj p 0 k) k:=fun i hi=>by rw[lj (by omega),lj (by omega),if_pos ⟨by omega,by omega⟩,if_pos ⟨by omega,by omega⟩];have:=d (0+k-1-(i+1)) (by omega);rw[show 0+k-1-(i+1)+1=0+k-1-i by omega]at this;exact this
 obtain⟨a1,a2,a3⟩:=oM (c:=c) (Nj p 0 k) (n-k) k h1;exact⟨by show(Nj p 0 k).size=n;rw[o9];exact hp,by show kasRun c (L1 (Nj p 0 k) (n-k) k)<=n;omega,u.asc h1⟩
include as tr in
theorem zG{p:Array Nat}{k:Nat}(hp:p.size=n)(hk:k+1<=n)(d:Dn c p (k+1)):qy n c (kasRun c (NO k n p)):=by
 unfold NO;rw[lR];have one:nV c p (k+1) 0:=fun i a b=>by
  have:i=k:=by omega
  subst this;exact⟨g0 as _,g0 as _⟩
 obtain⟨r1,r2,r3,r4,r5⟩:=pb as tr (n-(k+1)) p (k+1) 0 hp (by omega) (by omega) d one;by_cases hq:(kasRun c (L0 (n-(k+1)) p (k+1) 0)).2.2>0
 .rw[if_pos hq];exact zz (by rw[o9];exact r1) (by omega) r3 (r4.eqv tr (yC as tr (by omega) r2 r5))
 .rw[if_neg hq];exact zz r1 (by omega) r3 r4
include as tr in
theorem xI{p:Array Nat}{k:Nat}(h:Up c p k):∀(d i:Nat),i+d<k->Le c (aY p i) (aY p (i+d))
|0,i,_=>g0 as _
|d+1,i,hi=>tr _ _ _ (xI h d i (by omega)) (h (i+d) (by omega))
include as tr in
theorem mr{p:Array Nat}{k i j:Nat}(h:Up c p k)(hij:i<=j)(hj:j<k):Le c (aY p i) (aY p j):=by have:=xI as tr h (j-i) i (by omega);rw[show i+(j-i)=j by omega]at this;exact this
include as tr in
theorem Iv{p:Array Nat}(hp:p.size=n)(hn:2<=n):qy n c (kasRun c (Qd n p))/\1<=n:=by
 refine⟨?_,by omega⟩;unfold Qd;rw[lR];obtain⟨a1,a2,a3⟩:=oM (c:=c) p (n-1) 1 (q_ _);have u:Up c p (kasRun c (L1 p (n-1) 1)):=Up.asc (q_ _) (fun i hi=>by omega);have stop:kasRun c (L1 p (n-1) 1)<n->c (aY p (kasRun c (L1 p (n-1) 1))) (aY p (kasRun c (L1 p (n-1) 1)-1))=true:=by
  have gen:∀(f x:Nat),1<=x->kasRun c (L1 p f x)<x+f->c (aY p (kasRun c (L1 p f x))) (aY p (kasRun c (L1 p f x)-1))=true:=by
   intro f
   induction f with
  |zero=>intro x _ h;have:kasRun c (L1 p 0 x)=x:=rfl;omega
  |succ f ih=>
    intro x hx;have e:kasRun c (L1 p (f+1) x)=kasRun c (if c (p.getD x 0) (p.getD (x-1) 0)=true then KasT.ret x else L1 p f (x+1)):=by rw[kas_asc.eq_2];rfl
    rw[e];cases q:c (p.getD x 0) (p.getD (x-1) 0)with
   |true=>rw[if_pos rfl];intro _;exact q
   |false=>rw[if_neg i_];intro h;exact ih (x+1) (by omega) (by omega)
  intro h;exact gen (n-1) 1 (q_ _) (by omega)
 generalize kasRun c (L1 p (n-1) 1)=m at *;by_cases hm:m=n
 .rw[if_pos (by simpa using hm)];exact⟨hp,by show m<=n;omega,u⟩
 .rw[if_neg (by simpa using hm)];have st:=stop (by omega);by_cases h1:m>1
  .rw[if_pos h1];have e:kasRun c (KasT.ask (p.getD 0 0) (p.getD (m-1) 0) fun c=>if c=true then KasT.ret (m,p)else NO m n (Nj p 0 m))=kasRun c (if c (p.getD 0 0) (p.getD (m-1) 0)=true then KasT.ret (m,p)else NO m n (Nj p 0 m)):=rfl;rw[e];cases q:c (p.getD 0 0) (p.getD (m-1) 0)with
  |true=>rw[if_pos rfl];exact⟨hp,by show m<=n;omega,u⟩
  |false=>
    rw[if_neg i_];have all:∀i,i<m->fY c (aY p i) (aY p (m-1)):=fun i hi=>⟨mr as tr u (by omega) (by omega),tr _ _ _ q (mr as tr u (KN _) hi)⟩
    refine zG as tr (by rw[o9];exact hp) (by omega) fun i hi=>?_;have e1:∀i,i<m->fY c (aY (Nj p 0 m) i) (aY p (m-1)):=fun i hi=>by rw[lj (by omega),if_pos ⟨by omega,hi⟩];exact all _ (by omega)
    by_cases z:i+1=m
    .rw[z,lj (j:=m) (k:=m) (by omega),if_neg (by omega)];exact tr _ _ _ (as _ _ st) (e1 i (by omega)).2
    .exact((e1 (i+1) (by omega)).trans tr (e1 i (by omega)).symm).1
  .rw[if_neg h1];have hm1:m=1:=by omega
   subst hm1;refine zG as tr hp (by omega) fun i hi=>?_;have:i=0:=by omega
   subst this;exact as _ _ st
include as tr in
theorem sP{p:Array Nat}{k:Nat}(u:Up c p k):∀(f l r:Nat),r-l<=f->l<=r->r<=k->(∀i,i<l->Le c (aY p i) (aY p k))->(∀i,r<=i->i<k->c (aY p k) (aY p i)=true) ->kasRun c (MH p k f l r)<=k/\(∀i,i<kasRun c (MH p k f l r)->Le c (aY p i) (aY p k))/\(∀i,kasRun c (MH p k f l r)<=i->i<k->c (aY p k) (aY p i)=true)
|0,l,r,h1,h2,h3,h4,h5=>by
  have e:kasRun c (MH p k 0 l r)=l:=rfl;rw[e];have:l=r:=by omega
  subst this;exact⟨h3,h4,h5⟩
|f+1,l,r,h1,h2,h3,h4,h5=>by
  rw[kas_place.eq_2];by_cases z:l>=r
  .rw[if_pos z];have e:kasRun c (KasT.ret l)=l:=rfl;rw[e];have:l=r:=by omega
   subst this;exact⟨h3,h4,h5⟩
  .rw[if_neg z];have e:kasRun c (KasT.ask (p.getD k 0) (p.getD ((l+r)/2) 0) fun c=>if c=true then MH p k f l ((l+r)/2)else MH p k f ((l+r)/2+1) r)=kasRun c (if c (p.getD k 0) (p.getD ((l+r)/2) 0)=true then MH p k f l ((l+r)/2)else MH p k f ((l+r)/2+1) r):=rfl;rw[e];cases q:c (p.getD k 0) (p.getD ((l+r)/2) 0)with
  |true=>rw[if_pos rfl];refine sP u f l ((l+r)/2) (by omega) (by omega) (by omega) h4 fun i a b=>?_;cases w:c (aY p k) (aY p i)with
   |true=>rfl
   |false=>have:c (aY p k) (aY p ((l+r)/2))=false:=tr _ _ _ (mr as tr u a b) w;rw[q]at this;cases this
  |false=>rw[if_neg i_];refine sP u f ((l+r)/2+1) r (by omega) (by omega) h3 (fun i a=>?_) h5;exact tr _ _ _ (mr as tr u (by omega:i<=(l+r)/2) (by omega)) q
theorem w6{p:Array Nat}{s d:Nat}(hs:s<p.size)(hd:d<=s)(k:Nat):aY (bubble p s d) k=if k=s-d then aY p s else if s-d<k/\k<=s then aY p (k-1)else aY p k:=by
 have h:=getElem?_bubble hs d hd k;by_cases z:k=s-d
 .rw[if_pos z]at h ⊢;exact mJ h
 .rw[if_neg z]at h ⊢;by_cases y:s-d<k/\k<=s
  .rw[if_pos y]at h ⊢;exact mJ h
  .rw[if_neg y]at h ⊢;exact mJ h
include as tr in
theorem yF:∀(f:Nat)(p:Array Nat)(k:Nat),p.size=n->k+f=n->Up c p k->(kasRun c (kas_bin f p k)).size=n/\Up c (kasRun c (kas_bin f p k)) n
|0,p,k,h1,h2,u=>by
  have:k=n:=by omega
  subst this;exact⟨h1,u⟩
|f+1,p,k,h1,h2,u=>by
  rw[kas_bin.eq_2,lR];obtain⟨a1,a2,a3⟩:=sP as tr u k 0 k (by omega) (by omega) (q_ _) (fun i hi=>by omega) (fun i a b=>by omega);generalize kasRun c (MH p k k 0 k)=l at *;refine yF f _ (k+1) (by rw[bubble_size];exact h1) (by omega) fun i hi=>?_;rw[w6 (by omega) (by omega),w6 (by omega) (by omega)];rw[show k-(k-l)=l by omega];by_cases z1:i=l
  .rw[if_pos z1,if_neg (by omega),if_pos ⟨by omega,by omega⟩,show i+1-1=i by omega];exact as _ _ (a3 i (by omega) (by omega))
  .rw[if_neg z1];by_cases z2:i+1=l
   .rw[if_pos z2,if_neg (by omega)];exact a2 i (by omega)
   .rw[if_neg z2];by_cases z3:l<i
    .rw[if_pos ⟨z3,by omega⟩,if_pos ⟨by omega,by omega⟩];have:=u (i-1) (by omega);rw[show i-1+1=i by omega]at this;rw[show i+1-1=i by omega];exact this
    .rw[if_neg (by omega),if_neg (by omega)];exact u i (by omega)
include as tr in
theorem Hh(hn:2<=n):(kasRun c (N0 n)).size=n/\Up c (kasRun c (N0 n)) n:=by
 unfold N0;rw[lR];obtain⟨⟨r1,r2,r3⟩,_⟩:=Iv as tr (p:=(h_ n).toArray) (by simp) hn;generalize kasRun c (Qd n (h_ n).toArray)=r at *;by_cases z:r.1<n
 .rw[if_pos z];refine yF as tr _ _ _ r1 (by have:max r.1 1<=n:=(by omega);omega) fun i hi=>?_;exact r3 i (by omega)
 .rw[if_neg z];refine⟨r1,fun i hi=>r3 i (by omega)⟩
include as tr in
theorem Jz:(gC n c).Pairwise (Le c):=by
 unfold gC;by_cases h:n<2
 .rw[if_pos h]
  match n,h with
 |0,_=>exact List.Pairwise.nil
 |1,_=>simp[O6]
 .rw[if_neg h];obtain⟨s1,u⟩:=Hh as tr (n:=n) (by omega);rw[MY];intro i j hi hj hij;have:=mr as tr u (i:=i) (j:=j) (by omega) (by simp at hj;omega);simp at hi hj;have e:∀k (hk:k<(kasRun c (N0 n)).size),aY (kasRun c (N0 n)) k=(kasRun c (N0 n))[k]:=fun k hk=>by simp[aY,QO,hk]
  rw[e i hi,e j hj]at this;simpa using this
end
end DL
section
namespace DL
theorem A4{α:Type}{le:α->α->Prop}(anti:∀a b,le a b->le b a->a=b):∀{l m:List α},l.Perm m->l.Pairwise le->m.Pairwise le->l=m
|[],m,p,_,_=>by rw[List.nil_perm.mp p]
|a::l,[],p,_,_=>by have:=p.length_eq;simp at this
|a::l,b::m,p,h1,h2=>by
  have h1':=PK.mp h1;have h2':=PK.mp h2;have e:a=b:=by
   rcases z_.mp (p.mem_iff.mp j_)with z|z
   .exact z
   .rcases z_.mp (p.mem_iff.mpr j_)with y|y
    .exact y.symm
    .exact anti a b (h1'.1 b y) (h2'.1 a z)
  subst e;rw[A4 anti (List.Perm.cons_inv p) h1'.2 h2'.2]
theorem zV:∀(a b:List Int),bT a b=true->bT b a=false
|[],[],h=>by cases h
|[],_::_,_=>rfl
|_::_,[],h=>by cases h
|x::xs,y::ys,h=>by
  unfold bT at h ⊢;by_cases e:x=y
  .subst e;rw[if_pos rfl]at h ⊢;exact zV xs ys h
  .rw[if_neg e]at h;rw[if_neg (fun z=>e z.symm)];have:=of_decide_eq_true h;exact decide_eq_false (by omega)
theorem sv:∀(a b:List Int),bT a b=false->bT b a=false->a=b
|[],[],_,_=>rfl
|[],_::_,h,_=>by cases h
|_::_,[],_,h=>by cases h
|x::xs,y::ys,h1,h2=>by
  unfold bT at h1 h2;by_cases e:x=y
  .subst e;rw[if_pos rfl]at h1 h2;rw[sv xs ys h1 h2]
  .rw[if_neg e]at h1;rw[if_neg (fun z=>e z.symm)]at h2;have a1:=of_decide_eq_false h1;have a2:=of_decide_eq_false h2;omega
theorem AJ:∀(a b c:List Int),bT b a=false->bT c b=false->bT c a=false
|[],b,[],_,_=>rfl
|[],[],_::_,_,h=>by cases h <;> rfl
|[],_::_,_::_,h,_=>rfl
|x::xs,[],_,h,_=>by cases h
|x::xs,y::ys,[],_,h=>by cases h
|x::xs,y::ys,z::zs,h1,h2=>by
  unfold bT at h1 h2 ⊢;by_cases e1:y=x
  .subst e1;rw[if_pos rfl]at h1;by_cases e2:z=y
   .subst e2;rw[if_pos rfl]at h2 ⊢;exact AJ xs ys zs h1 h2
   .rw[if_neg e2]at h2 ⊢;exact h2
  .rw[if_neg e1]at h1;have a1:=of_decide_eq_false h1;by_cases e2:z=y
   .subst e2;rw[if_neg e1];exact h1
   .rw[if_neg e2]at h2;have a2:=of_decide_eq_false h2;rw[if_neg (by omega)];exact decide_eq_false (by omega)
def cC:List (List Int)->List (List Int)->Bool
|[],[]=>false
|[],_::_=>true
|_::_,[]=>false
|k::ks,l::ls=>if k=l then cC ks ls else bT k l
theorem kb:∀(ks ls:List (List Int)),ca ks ls=cC ks ls
|[],[]=>rfl
|[],_::_=>rfl
|_::_,[]=>rfl
|k::ks,l::ls=>by
  have ih:=kb ks ls;unfold ca at ih ⊢;have e:decide ((k::ks).length<(l::ls).length)=decide (ks.length<ls.length):=by simp
  rw[e];show(if k=l then fE _ ks ls else bT k l)=if k=l then cC ks ls else bT k l;rw[ih]
theorem zX:∀(a b:List (List Int)),cC a b=true->cC b a=false
|[],[],h=>by cases h
|[],_::_,_=>rfl
|_::_,[],h=>by cases h
|x::xs,y::ys,h=>by
  unfold cC at h ⊢;by_cases e:x=y
  .subst e;rw[if_pos rfl]at h ⊢;exact zX xs ys h
  .rw[if_neg e]at h;rw[if_neg (fun z=>e z.symm)];exact zV _ _ h
theorem zW:∀(a b:List (List Int)),cC a b=false->cC b a=false->a=b
|[],[],_,_=>rfl
|[],_::_,h,_=>by cases h
|_::_,[],_,h=>by cases h
|x::xs,y::ys,h1,h2=>by
  unfold cC at h1 h2;by_cases e:x=y
  .subst e;rw[if_pos rfl]at h1 h2;rw[zW xs ys h1 h2]
  .rw[if_neg e]at h1;rw[if_neg (fun z=>e z.symm)]at h2;exact absurd (sv _ _ h1 h2) e
theorem AK:∀(a b c:List (List Int)),cC b a=false->cC c b=false->cC c a=false
|[],b,[],_,_=>rfl
|[],[],_::_,_,h=>by cases h <;> rfl
|[],_::_,_::_,h,_=>rfl
|x::xs,[],_,h,_=>by cases h
|x::xs,y::ys,[],_,h=>by cases h
|x::xs,y::ys,z::zs,h1,h2=>by
  unfold cC at h1 h2 ⊢;by_cases e1:y=x
  .subst e1;rw[if_pos rfl]at h1;by_cases e2:z=y
   .subst e2;rw[if_pos rfl]at h2 ⊢;exact AK xs ys zs h1 h2
   .rw[if_neg e2]at h2 ⊢;exact h2
  .rw[if_neg e1]at h1;by_cases e2:z=y
   .subst e2;rw[if_neg e1];exact h1
   .rw[if_neg e2]at h2;by_cases e3:z=x
    .subst e3;exact absurd (sv _ _ h1 h2) e1
    .rw[if_neg e3];exact AJ _ _ _ h1 h2
end DL
end
namespace DL
open PySem PySem.Spec PyProof.Rows L2
section
variable{X:Cx}{pz:List (Addr×Obj)}{σ:L2.St}{H:Hp}{s:f_}
theorem GF(bs:List Bool):((h_ bs.length).all fun i=>bs.getD i true)=bs.all id:=by
 rw[Kv,LO,LO];constructor
 .intro h b hb;obtain⟨i,hi,rfl⟩:=Pq hb;have:=h i (s_.mpr hi);simpa[A_,hi]using this
 .intro h i hi;have hi:=s_.mp hi;have:=h bs[i] (MW _);simpa[A_,hi]using this
theorem IQ(hc:X.calm=true)(I:Inv X pz σ H s){p:Addr}{bs:List Bool}(hq:aO X.K H p (bs.map V.bl)){A:KM}(hA:A.handled=none){E:a_->f_->Prop}{Q:a_->f_->Prop}(h:∀I fp wr n P St tr it s₂,it=Value.ref I->Walks X.prog X.w A I fp wr n P St->St 0 s₂.heap->TruthOf X.prog X.w A P tr->n=bs.length->(∀i,tr i=bs.getD i true) ->(∀(h':Heap)(tk:Nat),(∀(b:Addr)(o:Obj),¬b∈wr->s₂.heap.get? b=some o->h'.get? b=some o)->Inv X pz σ H { heap:=h',gens:=s₂.gens,drawn:=s₂.drawn,toks:=tk,os:=s₂.os })->Q it s₂):C_ (H_ X.prog X.w) A (pyIter (.ref p)) Q E s:=by
 obtain⟨its,rv,pl,hz⟩:=I.list hq;have hl:=rv.length;rw[l_]at hl;refine Pi pl.isList fun s₂ e2 hi hlt hne=>?_;refine h s.heap.objs.size [s.heap.objs.size,p] [s.heap.objs.size] its.toArray.size _ _ (fun i=>bs.getD i true) _ s₂ rfl (R3 hA _ p hne its.toArray) hi ?_ (by rw[n_,hl]) (fun i=>rfl) fun h' tk k=>?_
 .intro i v s' Q' E' hv hq';have hv':its[i]? = some v:=by simpa using hv
  have hi:i<its.length:=(c_.mp hv').1;have hki:i<(bs.map V.bl).length:=by rw[l_];omega
  obtain⟨u,h1,h3⟩:=rv.get (i:=i) (x:=(bs.map V.bl)[i]) (d_ hki);rw[hv']at h1;cases h1;rw[Qi]at h3;have h3':v=Value.bool bs[i]:=h3;subst h3';have e:bs.getD i true=bs[i]:=by
   have hb:i<bs.length:=by omega
   simp[A_,hb]
  have hq2:Q' (bs.getD i true) s':=hq';rw[e]at hq2;exact u_ hq2
 .subst e2;have ne:∀b o,s.heap.get? b=some o->¬ b∈[s.heap.objs.size]:=fun b o e z=>by have:=t_.mp z;subst this;exact absurd (o_ e) (K_ _)
  exact Inv.keptN I (fun b o _ e=>k b o (ne b o e) (e_ _ e)) (fun m ⟨o,es,ep,e,z⟩=>⟨o,es,ep,k _ _ (ne _ _ e) (e_ _ e),z⟩) tk
theorem F4(hc:X.calm=true):dW X (.builtin "all") (fun xs H Q=>∃(p:Addr)(bs:List Bool),xs=[.ref p]/\aO X.K H p (bs.map V.bl)/\Q (.bl (bs.all id)) H):=by intro pz s σ H xs us Q I r h;obtain⟨p,bs,rfl,hq,q⟩:=h;obtain⟨u,rfl,rx⟩:=fN r;cases rx;refine call_all_walk (IQ hc I hq (show X.A.in1.handled=none from I.ok.hd hc) fun J fp wr n P St tr it s₂ e1 e2 e3 e4 e5 e6 e7=>⟨J,fp,wr,n,P,St,tr,e1,e2,e3,e4,fun h' tk k=>?_⟩);have et:tr=fun i=>bs.getD i true:=funext e6;rw[e5,et,GF];exact⟨.bl (bs.all id),H,e7 h' tk k,rfl,q⟩
end
def iP:List D->Option (List Bool)
|[]=>some []
|.bl b::ds=>(iP ds).map (b::·)
|_=>none
theorem EL{K:W.Frag}{G:GH}{H:Hp}(gk:aC K G H){ds:List D}{xs:List V}{bs:List Bool}(h:ba K G xs ds)(e:iP ds=some bs):xs=bs.map V.bl:=by induction h generalizing bs with
|nil=>cases e;rfl
|@cons x d xs ds r t ih=>cases d with
 |bl b=>have e':(iP ds).map (b::·)=some bs:=e;cases e1:iP ds with
  |none=>rw[e1]at e';cases e'
  |some bs'=>rw[e1]at e';cases e';rw[ih e1,B_,(RG.rb (H:=H) r).bl gk]
 |_=>cases e
def allD:List D->Option D
|[.lst ds]=>(iP ds).map fun bs=>.bl (bs.all id)
|_=>none
theorem B1{K:W.Frag}:me K (fun xs H Q=>∃(p:Addr)(bs:List Bool),xs=[.ref p]/\aO K H p (bs.map V.bl)/\Q (.bl (bs.all id)) H) allD:=by
 intro G H vs ds d Q gk rs e q;unfold allD at e;split at e
 .rename_i zs;cases ek:iP zs with
 |none=>rw[ek]at e;cases e
 |some bs=>rw[ek]at e;cases e;cases rs with
  |cons r1 t=>cases t;obtain⟨b,xs,rfl,s,r⟩:=r1.lst gk;have ex:=EL gk r ek;subst ex;exact⟨b,bs,rfl,s,q _ G H (Grow.refl gk) (.scl (.bl _))⟩
 .cases e
section
variable{X:Cx}{g:GE}{m:List Md}{e:Expr}{es:List Expr}{fl:al->Res (List D)}{pos p:Pos}
theorem Ct(hc:X.calm=true)(hg:Gl X "all")(hm:X.mg "all" = none)(ha:gS X g m (e::es) fl)(he:m_ (e::es) X.env=(false,eval e X.env)::m_ es X.env:=by rfl)(hpl:(backTo pos (m_ es X.env)).any (·.1)=false:=by rfl):SE X g m (.Call (.Name "all" p) (e::es) [] pos) (fC fl allD):=jb B1 (mV (F4 hc) hg hm PyProof.Rows.boot_all ha (by decide) (by decide) he hpl)
end
def eL(ks:List Int):Int:=ks.getD (QF (fun i j=>decide (ks.getD i 0<ks.getD j 0)) (ks.length-1)) 0
theorem tt(f:Nat->Int):∀k,QF (fun i j=>decide (f i<f j)) k<=k/\∀i,i<=k->f (QF (fun i j=>decide (f i<f j)) k)<=f i
|0=>⟨q_ _,fun i hi=>by
   have:i=0:=by omega
   subst this;exact RY _⟩
|k+1=>by
  obtain⟨h1,h2⟩:=tt f k;rw[argBest.eq_2];by_cases h:f (k+1)<f (QF (fun i j=>decide (f i<f j)) k)
  .rw[if_pos (by simpa using h)];refine⟨q_ _,fun i hi=>?_⟩;by_cases z:i=k+1
   .subst z;exact RY _
   .have:=h2 i (by omega);omega
  .rw[if_neg (by simpa using h)];refine⟨by omega,fun i hi=>?_⟩;by_cases z:i=k+1
   .subst z;omega
   .exact h2 i (by omega)
theorem Hs{ks:List Int}(h:ks≠[]):eL ks∈ks:=by
 have hp:=Mr.mpr h;have h1:=(tt (fun i=>ks.getD i 0) (ks.length-1)).1;unfold eL;have hlt:QF (fun i j=>decide (ks.getD i 0<ks.getD j 0)) (ks.length-1)<ks.length:=by omega
 rw[A_,d_ hlt];exact MW _
theorem Eu{ks:List Int}{x:Int}(h:x∈ks):eL ks<=x:=by
 obtain⟨i,hi,rfl⟩:=Pq h;have:=(tt (fun i=>ks.getD i 0) (ks.length-1)).2 i (by omega);have e:ks.getD i 0=ks[i]:=by simp[A_,hi]
 simp only[e]at this;exact this
section
variable{X:Cx}{pz:List (Addr×Obj)}{σ:L2.St}{H:Hp}{s:f_}
theorem GJ(hc:X.calm=true):dW X (.builtin "min") (fun xs H Q=>∃(p:Addr)(ks:List Int),xs=[.ref p]/\aO X.K H p (ks.map V.int)/\ks≠[]/\Q (.int (eL ks)) H):=by
 intro pz s σ H xs us Q I r h;obtain⟨p,ks,rfl,hq,hne,q⟩:=h;obtain⟨u,rfl,rx⟩:=fN r;cases rx;obtain⟨its,rv,pl,hz⟩:=I.list hq;have hl:=rv.length;rw[l_]at hl;have hA:X.A.in1.handled=none:=I.ok.hd hc;have hp:=Mr.mpr hne;have gi:∀i v,its[i]? = some v->∃t,v=Value.int (ks.getD i 0) t:=fun i v hv=>by
  have hi:i<its.length:=(c_.mp hv).1;have hki:i<(ks.map V.int).length:=by rw[l_];omega
  obtain⟨u,h1,h3⟩:=rv.get (i:=i) (x:=(ks.map V.int)[i]) (d_ hki);rw[hv]at h1;cases h1;rw[Qi]at h3;have hki':i<ks.length:=by omega
  rw[A_,d_ hki'];exact h3
 refine call_min_walkS (Pi pl.isList fun s₂ e2 hi hlt hn2=>?_);refine⟨s.heap.objs.size,[s.heap.objs.size,p],[s.heap.objs.size],_,its.toArray.size,_,_,fun i j=>decide (ks.getD i 0<ks.getD j 0),rfl,(R3 hA _ p hn2 its.toArray).toS,hi,hlt,by rw[n_];omega,?_,fun v s' hv M=>?_⟩
 .intro i j vi vj s' Q' E' h1 h2 hq';obtain⟨t1,rfl⟩:=gi i vi (by simpa using h1);obtain⟨t2,rfl⟩:=gi j vj (by simpa using h2);exact HT.eF _ s' _ t1 _ t2 X.prog X.w E' Q' hq'
 .have hsz:its.toArray.size-1=ks.length-1:=by rw[n_];omega
  rw[hsz]at hv;obtain⟨t,rfl⟩:=gi _ v (by simpa using hv);subst e2;have ne:∀b o,s.heap.get? b=some o->¬ b∈[s.heap.objs.size]:=fun b o e z=>by have:=t_.mp z;subst this;exact absurd (o_ e) (K_ _)
  obtain⟨h',g',d',tk,os'⟩:=s';have e1:g'=s.gens:=M.gens;have e3:d'=s.drawn:=M.drawn;have e4:os'=s.os:=M.os;subst e1 e3 e4;exact⟨.int (eL ks),H,Inv.keptN I (fun b o _ e=>M.heap b o (ne b o e) (e_ _ e)) (fun m ⟨o,es,ep,e,z⟩=>⟨o,es,ep,M.heap _ _ (ne _ _ e) (e_ _ e),z⟩) tk,⟨_,rfl⟩,q⟩
end
def iN:List D->Option D
|[.lst (d::ds)]=>(iy (d::ds)).map fun ks=>.int (eL ks)
|_=>none
theorem Et{K:W.Frag}:me K (fun xs H Q=>∃(p:Addr)(ks:List Int),xs=[.ref p]/\aO K H p (ks.map V.int)/\ks≠[]/\Q (.int (eL ks)) H) iN:=by
 intro G H vs ds d Q gk rs e q;unfold iN at e;split at e
 .rename_i z zs;cases ek:iy (z::zs)with
 |none=>rw[ek]at e;cases e
 |some ks=>rw[ek]at e;cases e;cases rs with
  |cons r1 t=>
    cases t;obtain⟨b,xs,rfl,s,r⟩:=r1.lst gk;have hl:=Paired.length r;have ex:=ze gk r ek;subst ex;refine⟨b,ks,rfl,s,?_,q _ G H (Grow.refl gk) (.scl (.int _))⟩
    rintro rfl
    simp at hl
 .cases e
section
variable{X:Cx}{g:GE}{m:List Md}{e:Expr}{es:List Expr}{fl:al->Res (List D)}{pos p:Pos}
theorem rh(hc:X.calm=true)(hg:Gl X "min")(hm:X.mg "min" = none)(ha:gS X g m (e::es) fl)(he:m_ (e::es) X.env=(false,eval e X.env)::m_ es X.env:=by rfl)(hpl:(backTo pos (m_ es X.env)).any (·.1)=false:=by rfl):SE X g m (.Call (.Name "min" p) (e::es) [] pos) (fC fl iN):=jb Et (mV (GJ hc) hg hm PyProof.Rows.boot_min ha (by decide) (by decide) he hpl)
end
def jv(h0 H:Hp):Prop:=∀a o,h0 a=some o->H a=some o
structure YieldsB(K:W.Frag)(h0:Hp)(J:It)(ds:List D)(G0:GH):Prop where
 go:∀G H (i:Nat),aI G0 G->aC K G H->jv h0 H->i<ds.length->J.go i H
 yld:∀G H (i:Nat) x H' d,aI G0 G->aC K G H->jv h0 H->J.yld i H x H'->ds[i]? = some d->∃G',Grow K G H G' H'/\RG K G' x d
 stop:∀G H,aI G0 G->aC K G H->jv h0 H->J.stop ds.length H
theorem Yields.toH{K:W.Frag}{h0:Hp}{J:It}{ds:List D}{G0:GH}(y:Yields K J ds G0):YieldsB K h0 J ds G0:=⟨fun G H i w gk _ hi=>y.go G H i w gk hi,fun G H i x H' d w gk _ q e=>y.yld G H i x H' d w gk q e,fun G H w gk _=>y.stop G H w gk⟩
def Kf(X:Cx)(g:GE)(m:List Md)(f:FI):TI:=fun σ H R=>∃r G,SI X g m r G σ H/\fin (f r) (fun ds=>∀J G' H',Grow X.K G H G' H'->YieldsB X.K g.h0 J ds G'->R J H') (XW X σ G H)
def jp(X:Cx)(g:GE)(m:List Md)(tg iter:Expr)(f:FI):Prop:=PI X tg iter (Kf X g m f)
def Kh(X:Cx)(g:GE)(m:List Md)(f:FE):TE:=fun σ H Q=>∃r G,SI X g m r G σ H/\fin (f r) (fun d=>∀v G' H',Grow X.K G H G' H'->Bw X.K g.h0 G' H' v d->Q v H') (XW X σ G H)
def vY(X:Cx)(g:GE)(m:List Md)(e:Expr)(f:FE):Prop:=PE X e (Kh X g m f)
section
variable{X:Cx}{g:GE}{m m' mb:List Md}{tg e a iter:Expr}{f:FE}{pos p pos2:Pos}{ro:Bool}{sts:List Stmt}{s1:FS}{elts:List Expr}{kk:Nat}
theorem iJ.toH{fi:FI}(h:iJ X g m tg iter fi):jp X g m tg iter fi:=PI.imp h fun σ H R ⟨r,G,si,q⟩=>⟨r,G,si,a9 q fun ds k J G' H' w y=>k J G' H' w y.toH⟩
theorem uQ(i:Nat){x:Str}(hm:m[i]? = some .bw:=by rfl)(hN:X.N[i]? = some x:=by rfl)(hv:gw X.env.scope x:=by first|exact Or.inl rfl|exact Or.inr (Or.inl rfl)|exact Or.inr (Or.inr rfl))(hd:(x==("__debug__" : Str))=false:=by decide)(hcd:(x==("__classdict__" : Str))=false:=by decide):vY X g m (.Name x pos) fun r=>cY r i:=by refine PE.imp (j7 hN hv hd hcd) fun σ H Q ⟨r,G,si,q⟩=>?_;obtain⟨d,e,k⟩:=oX q;obtain⟨v,e1,e2⟩:=si.bw i d e hm;exact⟨v,e1,k _ G H (Grow.refl si.gok) e2⟩
theorem yH{K:W.Frag}{h0:Hp}{G0 G:GH}{H0 H:Hp}{a:Addr}{ds:List D}(o:Own K G0 H0 a (.lst ds))(h:h0 a≠none)(o0:jv h0 H0)(le:aI G0 G)(o1:jv h0 H):∃xs,aO K H a xs/\ba K G xs ds:=by cases e:h0 a with
|none=>exact absurd e h
|some u=>have h1:=o0 a u e;have h2:=o1 a u e;cases o.ob with
 |lst r s=>rw[h1]at r;cases r;exact⟨_,aO.of h2,ba.mono s le⟩
theorem E4{K:W.Frag}{h0:Hp}{ds:List D}{G0:GH}{a:Addr}(h:∀G H,aI G0 G->aC K G H->jv h0 H->∃xs,aO K H a xs/\ba K G xs ds):YieldsB K h0 (nS K a) ds G0:=by
 refine⟨fun G H i w gk o hi=>?_,fun G H i x H' d w gk o y e=>?_,fun G H w gk o=>?_⟩
 .obtain⟨xs,s,r⟩:=h G H w gk o;have hl:=Paired.length r;exact⟨xs,xs[i],s,d_ (by omega)⟩
 .obtain⟨xs,s,r⟩:=h G H w gk o;obtain⟨rfl,y⟩:=y;obtain⟨v,e1,rv⟩:=Paired.get r e;have:=y xs s;rw[e1]at this;cases this;exact⟨G,Grow.refl gk,rv⟩
 .obtain⟨xs,s,r⟩:=h G H w gk o;exact⟨xs,s,Nf (Paired.length r)⟩
theorem SI.oldIn{r:al}{G:GH}{st:L2.St}{H:Hp}(s:SI X g m r G st H):jv g.h0 H:=s.old
theorem xk(h:vY X g m e f):jp X g m tg e (aF bv f):=by
 refine PI.imp (rm h) fun σ H R ⟨r,G,si,q⟩=>⟨r,G,si,a9 (aU q) fun d q v G' H' w rv=>?_⟩
 obtain⟨ds,e,q⟩:=cv q;cases d with
|lst ds'=>
  cases e;rcases rv with rv|⟨a,rfl,o,ho⟩
  .obtain⟨a,xs,rfl,s,rs⟩:=rv.lst w.ok;exact .inl ⟨a,rfl,⟨xs,s⟩,q _ G' H' w (rH rv).toH⟩
  .cases o.ob with
  |lst r s=>exact .inl ⟨a,rfl,⟨_,aO.of r⟩,q _ G' H' w (E4 fun G2 H2 le _ o2=>yH o ho (si.grow w).oldIn le o2)⟩
|tup ds'=>
  cases e;rcases rv with rv|⟨a,rfl,o,ho⟩
  .obtain⟨a,xs,rfl,s,rs⟩:=rv.tup w.ok;exact .inr ⟨a,rfl,⟨xs,s⟩,q _ G' H' w (ra rv).toH⟩
  .cases o.ob
|_=>cases e
theorem rG{K:W.Frag}{h0:Hp}{ds:List D}{G0:GH}{sq:Hp->List V->Prop}(h:∀G H,aI G0 G->aC K G H->jv h0 H->∃xs,sq H xs/\ba K G xs ds):YieldsB K h0 (kY sq) (df 0 ds) G0:=by
 refine⟨fun G H i w gk o hi=>?_,fun G H i x H' d w gk o y e=>?_,fun G H w gk o=>?_⟩
 .obtain⟨xs,s,r⟩:=h G H w gk o;rw[rX]at hi;have hl:=Paired.length r;exact⟨xs,xs[i],s,d_ (by omega)⟩
 .obtain⟨xs,s,r⟩:=h G H w gk o;obtain⟨p,v,hp,rfl,rfl,hv⟩:=y;rw[zj]at e;cases ed:ds[i]? with
 |none=>rw[ed]at e;cases e
 |some d0=>rw[ed]at e;simp only[MD,PP,OZ]at e;subst e;obtain⟨v',e1,rv⟩:=Paired.get r ed;have:=hv xs s;rw[e1]at this;cases this;exact⟨_,Grow.newF gk hp (.tup (.inl bO) (.cons (.scl (.int _)) (.cons rv .nil))),.ref dh⟩
 .obtain⟨xs,s,r⟩:=h G H w gk o;rw[rX];exact⟨xs,s,Paired.length r⟩
theorem EY(hg:Gl X "enumerate")(hm:X.mg "enumerate" = none)(he:vY X g m e f)(hs:m_ [e] X.env=(false,eval e X.env)::m_ [] X.env:=by rfl):jp X g m (.Tuple elts kk pos2) (.Call (.Name "enumerate" p) [e] [] pos) (nL f):=by
 refine PI.imp (Fo hg hm he hs) fun σ H R ⟨r,G,si,q⟩=>⟨r,G,si,a9 (aU q) fun d q v G' H' w rv=>?_⟩
 obtain⟨ds,e,q⟩:=cv (aU q);cases d with
|lst ds'=>
  cases e;rcases rv with rv|⟨a,rfl,o,ho⟩
  .obtain⟨a,xs,rfl,s,rs⟩:=rv.lst w.ok;refine .inl ⟨a,rfl,⟨xs,s⟩,q _ G' H' w (rG fun G H le gk _=>?_)⟩;obtain⟨b,ys,e,s',r'⟩:=(rv.mono le).lst gk;cases e;exact⟨ys,s',r'⟩
  .cases o.ob with
  |lst r s=>exact .inl ⟨a,rfl,⟨_,aO.of r⟩,q _ G' H' w (rG fun G2 H2 le _ o2=>yH o ho (si.grow w).oldIn le o2)⟩
|tup ds'=>
  cases e;rcases rv with rv|⟨a,rfl,o,ho⟩
  .obtain⟨a,xs,rfl,s,rs⟩:=rv.tup w.ok;refine .inr ⟨a,rfl,⟨xs,s⟩,q _ G' H' w (rG fun G H le gk _=>?_)⟩;obtain⟨b,ys,e,s',r'⟩:=(rv.mono le).tup gk;cases e;exact⟨ys,s',r'⟩
  .cases o.ob
|_=>cases e
theorem rf(hp:Oy (H_ X.prog X.w) X.A X.env X.xe)(hc:X.calm=true){ft:FT}{fi:FI}(hi:jp X g m tg iter fi)(hg:SG X g m tg ft m)(hb:fH X g ro m m sts s1 m)(hs:∀x,Mi iter X.env x=pure x:=by intro _;rfl):SS X g ro mb m (.For tg iter sts [] pos) (c7 m fi ft s1) m:=by
 refine⟨rfl,PS.imp (rc hp hc hi hg.2 hb.2 hs) fun D σ H ⟨r,G,si,q⟩=>⟨r,G,si,a9 (fV si rfl q) fun ds q J G0 H0 w0 Y=>?_⟩⟩;refine⟨fun i n σ H=>∃r G,SI X g m r G σ H/\aI G0 G/\i<=ds.length/\n=ds.length-i/\bZ X g ro m mb G D (aB ft s1 (ds.drop i) r),⟨ds.length,r,G0,si.grow w0,aI.refl G0,KN _,rfl,bZ.gle q w0.ge⟩,?_⟩
 rintro i n σ1 H1 ⟨r1,G1,si1,le1,hi,rfl,q1⟩
 by_cases hlt:i<ds.length
 .have hd:ds.drop i=ds[i]::ds.drop (i+1):=Mb hlt;rw[hd]at q1;unfold aB at q1;refine .inr ⟨Y.go G1 H1 i le1 si1.gok si1.oldIn hlt,fun σ' H'=>∃r G,SI X g m r G σ' H'/\aI G0 G/\bZ X g ro m mb G D (aB ft s1 (ds.drop (i+1)) r),fun σ' H' ⟨r',G',si',le',q'⟩=>⟨ds.length-(i+1),by omega,r',G',si',le',hlt,rfl,q'⟩,fun x H' y=>?_⟩;obtain⟨G',w',rv⟩:=Y.yld G1 H1 i x H' ds[i] le1 si1.gok si1.oldIn y (d_ hlt);have le':aI G0 G':=le1.trans w'.ge;cases eft:ft ds[i] r1 with
 |none=>simp only[eft]at q1;exact q1.elim
 |some r2=>simp only[eft]at q1;refine⟨r1,G',ds[i],si1.grow w',rv,r2,eft,fun σ2 si2=>⟨r2,G',si2,?_⟩⟩;cases eb:s1 r2 with
  |nx r'=>simp only[eb]at q1;exact fun σ3 G3 H3 le3 si3=>⟨r',G3,si3,le'.trans le3,bZ.gle q1 (aI.trans w'.ge le3)⟩
  |ct r'=>simp only[eb]at q1;exact fun σ3 G3 H3 le3 si3=>⟨r',G3,si3,le'.trans le3,bZ.gle q1 (aI.trans w'.ge le3)⟩
  |bk r'=>simp only[eb]at q1;exact fun σ3 G3 H3 le3 si3=>q1 σ3 G3 H3 (aI.trans w'.ge le3) si3
  |rt d=>simp only[eb]at q1;exact q1
  |exc x r'=>simp only[eb]at q1;exact fun pz e s' σ3 G3 H3 le3=>q1 pz e s' σ3 G3 H3 (aI.trans w'.ge le3)
  |stuck=>simp only[eb]at q1;exact q1
 .have e:i=ds.length:=by omega
  subst e;rw[Nq]at q1;exact .inl ⟨Y.stop G1 H1 le1 si1.gok si1.oldIn,q1 σ1 G1 H1 (aI.refl _) si1⟩
end
section
open HT (sIx)
section
variable{prog:E_}{w:Kz}{A:KM}{E:a_->f_->Prop}{s:f_}
theorem JI{t sl:Addr}{items:Array a_}{vl vu:a_}{lo hi:Option Int}{Q:a_->f_->Prop}(ht:PN s.heap t items)(hs:s.heap.IsSliceOf sl vl vu .none)(pl:OL vl lo)(pu:OL vu hi)(hw:sIx items.size 0 lo=0/\sIx items.size items.size hi=items.size)(h:Q (.ref t) s):C_ (H_ prog w) A (OM (.ref t) (.ref sl)) Q E s:=by
 obtain⟨os,hos,hcs,hds⟩:=id hs;have hTs:s.TypeIs (.ref sl) "slice" := ⟨os,hos,hcs⟩
 unfold OM
 try with_reducible refine Ll ?_
 first|refine b_ (u_ ?_)|skip
 refine b_ (PY ht.typeIs (by decide) (b_ (K6 (name:=Mj "__getitem__") ht.typeIs KZ (Lx KZ ht.typeIs P6 ?_ (Qb _ _)))));show C_ _ _ (NX (.ref t) >>= _) _ _ s;refine b_ (QU ht (b_ (OO hTs ?_)));rw[if_pos (by decide)];refine b_ (HT.bB hs pl pu ?_);rw[hw.1,hw.2];show C_ _ _ (if (((0:Nat):Int)==0&&(1:Int)==1&&(items.size-0)==items.size)=true then _ else _) _ _ s;rw[if_pos (by simp)];show C_ _ _ (N4 (.ref t) >>= _) _ _ s;unfold N4;refine b_ (b_ (OO ht.typeIs (u_ ?_)));rw[if_pos (by decide)];refine b_ (OV ?_);show C_ _ _ (ret (.ref t)) _ _ s;exact u_ ⟨_,rfl,u_ h⟩
end
def vG(K:W.Frag):V->Option Int->Option Int->Hp->VK->Prop:=fun x lo hi H Q=>∃a xs,x=.ref a/\bF K H a xs/\(sIx xs.length 0 lo=0/\sIx xs.length xs.length hi=xs.length)/\Q (.ref a) H
theorem Gv{X:Cx}:ij X (vG X.K):=by
 intro pz s σ H x v vl vu lo hi sl Q I rx hs pl pu h;obtain⟨a,xs,rfl,hx,hw,q⟩:=h;cases rx;obtain⟨its,r,ht,hz⟩:=I.tuple hx;have hlen:its.toArray.size=xs.length:=by rw[n_];exact r.length.symm
 exact⟨"tuple",_,KZ.lookup,ht.typeIs,JI ht hs pl pu (by rw[hlen];exact hw) ⟨.ref a,H,I,rfl,q⟩⟩
def qo(d:D)(lo hi:Option Int):Option D:=match d with
|.tup ds=>some (.tup (bD ds lo hi))
|.lst ds=>some (.lst (bD ds lo hi))
|_=>none
def ie(fa:FE)(fl fh:FP):FE:=fun r=>(fa r).bind fun d=>(fl r).bind fun lo=>(fh r).bind fun hi=>bH (qo d lo hi)
section
variable{X:Cx}{g:GE}{m:List Md}{e:Expr}{f fa:FE}{pos p2:Pos}
theorem E9{R:V->Option Int->Option Int->Hp->Prop}{fl fh:FP}{r:al}{G:GH}{σ:L2.St}{H:Hp}{q:D->Prop}(si:SI X g m r G σ H)(h:fin (ie fa fl fh r) q (XW X σ G H))(hk:∀d lo hi v G2 H2 d',Grow X.K G H G2 H2->RB X.K G2 H2 v d->qo d lo hi=some d'->q d'->R v lo hi H2):tB X g m fa σ H fun x H1=>tP X g m fl σ H1 fun l H2=>tP X g m fh σ H2 fun u H3=>R x l u H3:=by refine⟨r,G,si,a9 (aU h) fun d h1 v G1 H1 w1 r1=>⟨r,G1,si.grow w1,eV (aU h1) w1 fun lo h2 G2 H2 w2=>⟨r,G2,(si.grow w1).grow w2,?_⟩⟩⟩;refine eV (aU h2) (w1.trans w2) fun hi h3 G3 H3 w3=>?_;obtain⟨d',e,h4⟩:=cv h3;exact hk d lo hi v G3 H3 d' ((w1.trans w2).trans w3) ((r1.mono w2).mono w3) e h4
theorem HV{α:Type}{ds:List α}{lo hi:Option Int}(h:sIx ds.length 0 lo=0/\sIx ds.length ds.length hi=ds.length):bD ds lo hi=ds:=by unfold bD;rw[h.1,h.2];simp
theorem BL{lo hi:Option Expr}{fl fh:FP}(he:SB X g m e f)(hl:l8 X g m lo fl)(hu:l8 X g m hi fh):SE X g m (.Subscript e (.Slice lo hi none p2) pos) (ie f fl fh):=by refine PE.imp (za (ij.or Gv (ij.or yG xE)) he hl hu) fun σ H Q ⟨r,G,si,q⟩=>?_;refine E9 si q fun d lo hi v G2 H2 d' w r1 e q2=>?_;cases d with
|tup ds=>
  cases e;rcases r1 with r1|⟨a',_,oo⟩
  .obtain⟨a,xs,rfl,s,r⟩:=r1.tup w.ok;by_cases hw:sIx ds.length 0 lo=0/\sIx ds.length ds.length hi=ds.length
   .refine .inl ⟨a,xs,rfl,s,by rw[Paired.length r];exact hw,?_⟩;rw[HV hw]at q2;exact q2 _ G2 H2 w r1
   .rw[<-Paired.length r]at hw;refine .inr (.inr ⟨a,xs,rfl,s,hw,fun p hp=>?_⟩);exact q2 _ _ _ (w.trans (Grow.newF w.ok hp (.tup (.inl bO) (nX r lo hi)))) (.ref dh)
  .cases oo.ob
|lst ds=>cases e;obtain⟨a,xs,rfl,s,r⟩:=r1.lst w.ok;exact .inr (.inl ⟨a,xs,rfl,s,fun p hp=>q2 _ _ _ (w.trans (Grow.newF w.ok hp (.lst (.inl bO) (nX r lo hi)))) (.ref dh)⟩)
|_=>cases e
end
end
section
open AutoSeq1 (wpAny_loadPart')
structure ZA(zp ti to u1 u2:Addr)(f1 f2:List Addr):Prop where
 a1:ti≠zp
 a2:to≠zp
 a3:u1≠zp
 a4:u2≠zp
 a5:to≠u1
 a6:to≠u2
 a7:u1≠u2
 a8:ti≠to/\ti≠u1/\ti≠u2
 b1:zp∉f1/\to∉f1/\u2∉f1
 b2:zp∉f2/\to∉f2/\u1∉f2
theorem _root_.PySem.Draws.at'{prog:E_}{w:Kz}{A:KM}{it:Addr}{fp:List Addr}{n:Nat}{P:Nat->a_->Prop}{St:Nat->Heap->Prop}(D:MM prog w A it fp n P St){i:Nat}{h h':Heap}{c:Addr}(st:St i h)(e:RX c h h')(hc:c∉fp):St i h':=D.frame i h h' st fun b hb o q=>e b o (by rintro rfl;exact hc hb) q
section
variable{prog:E_}{w:Kz}{A:KM}{E:a_->f_->Prop}{s:f_}{zp ti to u1 u2:Addr}{f1 f2:List Addr}{n1 n2:Nat}{P1 P2:Nat->a_->Prop}{St1 St2:Nat->Heap->Prop}{p q:a_}
theorem Ia{i:Nat}{Q:a_->f_->Prop}(Z:ZA zp ti to u1 u2 f1 f2)(D1:MM prog w A u1 f1 n1 P1 St1)(D2:MM prog w A u2 f2 n2 P2 St2)(hz:Nn s.heap zp ti to .none)(hi:Lj s.heap ti (.ref u1) (.ref u2))(ho:Lj s.heap to p q)(s1:St1 i s.heap)(s2:St2 i s.heap)(l1:i<n1)(l2:i<n2)(hQ:∀x y h' tk,P1 i x->P2 i y->Nn h' zp ti to (NU s.heap.objs.size)->Lj h' to x y->St1 (i+1) h'->St2 (i+1) h'->Lj h' s.heap.objs.size x y->h'.objs.size=s.heap.objs.size+1 ->(∀c o,c≠zp->c≠to->c≠u1->c≠u2->s.heap.get? c=some o->h'.get? c=some o)->Q (.ref s.heap.objs.size) { s with heap:=h',toks:=tk }):C_ (H_ prog w) A (MV.«zip.__next__» ⟨[.ref zp],[]⟩) (fun fin s'=>∃v,fin=.done (.ret v)/\Q v s') E s:=by
 show C_ _ _ (Ph (.ref zp) 2 >>= _) _ _ _;refine b_ (K0 hz rfl (x:=.bool false) rfl ?_);show C_ _ _ (Ph (.ref zp) 3 >>= _) _ _ _;refine b_ (K0 hz rfl (x:=.ref ti) rfl (b_ (Lp hi rfl ?_)));show C_ _ _ (Kw (.ref zp) >>= _) _ _ _;refine b_ ?_;unfold Kw;refine b_ (K0 hz rfl (x:=.none) rfl (u_ ?_));simp only[if_true];refine b_ (OV (b_ (K0 hz rfl (x:=.ref to) rfl (b_ (LP hz (by simp) fun g1 hz1 k1=>?_)))));replace hz1:Nn g1 zp ti to .ellipsis:=hz1;refine b_ ?_;simp only[Qj,Qy,LX,N5];refine b_ (b_ (Os ?_));show C_ _ _ (Ku (.ref u1) >>= _) _ _ _;refine b_ (D1.item i _ _ _ l1 (D1.at' s1 k1.extBut Z.b1.1) fun x g2 t2 px st1 k2=>u_ ?_);have ho2:Lj g2 to p q:=k2.extBut _ _ Z.a5 (k1.extBut _ _ Z.a2 ho);refine b_ (Lp ho2 rfl (b_ (Nx ho2 fun g3 ho3 k3=>?_)));replace ho3:Lj g3 to x q:=ho3;refine b_ (Pj (u_ ?_));refine b_ (b_ (Os ?_));show C_ _ _ (Ku (.ref u2) >>= _) _ _ _;refine b_ (D2.item i _ _ _ l2 (D2.at' (D2.at' (D2.at' s2 k1.extBut Z.b2.1) k2.extBut Z.b2.2.2) k3.extBut Z.b2.2.1) fun y g4 t4 py st2 k4=>u_ ?_);have ho4:Lj g4 to x q:=k4.extBut _ _ Z.a6 ho3;refine b_ (Lp ho4 rfl (b_ (Nx ho4 fun g5 ho5 k5=>?_)));replace ho5:Lj g5 to x y:=ho5;refine b_ (Pj (u_ (u_ ?_)));refine b_ (Lp ho5 rfl (b_ (Pf ?_)));have hsz:g5.objs.size=s.heap.objs.size:=by rw[k5.1,k4.1,k3.1,k2.1,k1.1]
 have hz5:Nn g5 zp ti to .ellipsis:=k5.extBut _ _ Z.a2.symm (k4.extBut _ _ Z.a4.symm (k3.extBut _ _ Z.a2.symm (k2.extBut _ _ Z.a3.symm hz1)));have st15:St1 (i+1) g5:=D1.at' (D1.at' (D1.at' st1 k3.extBut Z.b1.2.1) k4.extBut Z.b1.2.2) k5.extBut Z.b1.2.1;have st25:St2 (i+1) g5:=D2.at' st2 k5.extBut Z.b2.2.1;have hzlt:zp<g5.objs.size:=o_ hz5;show C_ _ _ (M0 (.ref zp) (.ref g5.objs.size) >>= _) _ _ _;refine b_ ?_;unfold M0;have hz6:Nn (g5.push { cls:=.type "tuple",data:=.seq #[x,y] }) zp ti to .ellipsis:=e_ _ hz5;refine b_ (LP hz6 (by simp) fun g7 hz7 k7=>?_);replace hz7:Nn g7 zp ti to (NU g5.objs.size):=hz7;refine LP hz7 (by simp) fun g8 hz8 k8=>?_;replace hz8:Nn g8 zp ti to (NU g5.objs.size):=hz8;have up:∀c o,c≠zp->g5.get? c=some o->g8.get? c=some o:=fun c o c1 e=>k8.extBut _ _ c1 (k7.extBut _ _ c1 (e_ _ e));have hT8:Lj g8 g5.objs.size x y:=k8.extBut _ _ (KL hzlt) (k7.extBut _ _ (KL hzlt) (y_ _ rfl));have sz8:g8.objs.size=g5.objs.size+1:=by rw[k8.1,k7.1,Lo]
 rw[hsz]at hz8 hT8 sz8;refine u_ ⟨_,rfl,?_⟩;show Q (.ref g5.objs.size) _;rw[hsz];refine hQ x y g8 _ px py hz8 (up _ _ Z.a2 ho5) (D1.frame _ _ _ st15 fun b hb o e=>up b o (by rintro rfl;exact Z.b1.1 hb) e) (D2.frame _ _ _ st25 fun b hb o e=>up b o (by rintro rfl;exact Z.b2.1 hb) e) hT8 sz8 fun c o c1 c2 c3 c4 e=>up c o c1 ?_;exact k5.extBut _ _ c2 (k4.extBut _ _ c4 (k3.extBut _ _ c2 (k2.extBut _ _ c3 (k1.extBut _ _ c1 e))))
theorem GA{i:Nat}{Q:Fin->f_->Prop}(Z:ZA zp ti to u1 u2 f1 f2)(D1:MM prog w A u1 f1 n1 P1 St1)(D2:MM prog w A u2 f2 n2 P2 St2)(hz:Nn s.heap zp ti to .none)(hi:Lj s.heap ti (.ref u1) (.ref u2))(ho:Lj s.heap to p q)(s1:St1 i s.heap)(s2:St2 i s.heap)(hend:i=n1\/(i<n1/\i=n2))(hE:∀h' e tk,(∀c o,c≠zp->c≠to->c≠u1->c≠u2->s.heap.get? c=some o->h'.get? c=some o)->(∃o,h'.get? e=some o/\o.cls=.type "StopIteration")->E (.ref e) { s with heap:=h',toks:=tk }):C_ (H_ prog w) A (MV.«zip.__next__» ⟨[.ref zp],[]⟩) Q E s:=by
 show C_ _ _ (Ph (.ref zp) 2 >>= _) _ _ _;refine b_ (K0 hz rfl (x:=.bool false) rfl ?_);show C_ _ _ (Ph (.ref zp) 3 >>= _) _ _ _;refine b_ (K0 hz rfl (x:=.ref ti) rfl (b_ (Lp hi rfl ?_)));show C_ _ _ (Kw (.ref zp) >>= _) _ _ _;refine b_ ?_;unfold Kw;refine b_ (K0 hz rfl (x:=.none) rfl (u_ ?_));simp only[if_true];refine b_ (OV (b_ (K0 hz rfl (x:=.ref to) rfl (b_ (LP hz (by simp) fun g1 hz1 k1=>?_)))));replace hz1:Nn g1 zp ti to .ellipsis:=hz1;refine b_ ?_;simp only[Qj,Qy,LX,N5];refine b_ (b_ (Os ?_));show C_ _ _ (Ku (.ref u1) >>= _) _ _ _;rcases hend with hend|⟨hlt,hend⟩
 .subst hend;refine b_ (D1.done _ _ _ (D1.at' s1 k1.extBut Z.b1.1) fun g2 e k2 he=>?_);obtain⟨oe,hoe,hce⟩:=he;have hz2:Nn g2 zp ti to .ellipsis:=k2 _ _ Z.a3.symm hz1;have hez:e≠zp:=fun x=>by subst x;rw[hz2]at hoe;cases hoe;simp at hce
  exact LP hz2 (by simp) fun g3 _ k3=>hE g3 e _ (fun c o c1 _ c3 _ x=>k3.extBut _ _ c1 (k2 _ _ c3 (k1.extBut _ _ c1 x))) ⟨oe,k3.extBut _ _ hez hoe,hce⟩
 .subst hend;refine b_ (D1.item _ _ _ _ hlt (D1.at' s1 k1.extBut Z.b1.1) fun x g2 t2 px st1 k2=>u_ ?_);have ho2:Lj g2 to p q:=k2.extBut _ _ Z.a5 (k1.extBut _ _ Z.a2 ho);refine b_ (Lp ho2 rfl (b_ (Nx ho2 fun g3 ho3 k3=>?_)));refine b_ (Pj (u_ ?_));refine b_ (b_ (Os ?_));show C_ _ _ (Ku (.ref u2) >>= _) _ _ _;refine b_ (D2.done _ _ _ (D2.at' (D2.at' (D2.at' s2 k1.extBut Z.b2.1) k2.extBut Z.b2.2.2) k3.extBut Z.b2.2.1) fun g4 e k4 he=>?_);obtain⟨oe,hoe,hce⟩:=he;have hz4:Nn g4 zp ti to .ellipsis:=k4 _ _ Z.a4.symm (k3.extBut _ _ Z.a2.symm (k2.extBut _ _ Z.a3.symm hz1));have hez:e≠zp:=fun x=>by subst x;rw[hz4]at hoe;cases hoe;simp at hce
  exact LP hz4 (by simp) fun g5 _ k5=>hE g5 e _ (fun c o c1 c2 c3 c4 x=>k5.extBut _ _ c1 (k4 _ _ c4 (k3.extBut _ _ c2 (k2.extBut _ _ c3 (k1.extBut _ _ c1 x))))) ⟨oe,k5.extBut _ _ hez hoe,hce⟩
theorem AX{i:Nat}{Q:Option a_->f_->Prop}(Z:ZA zp ti to u1 u2 f1 f2)(D1:MM prog w A.in1 u1 f1 n1 P1 St1)(D2:MM prog w A.in1 u2 f2 n2 P2 St2)(hz:Nn s.heap zp ti to .none)(hi:Lj s.heap ti (.ref u1) (.ref u2))(ho:Lj s.heap to p q)(s1:St1 i s.heap)(s2:St2 i s.heap)(l1:i<n1)(l2:i<n2)(hQ:∀x y h' tk,P1 i x->P2 i y->Nn h' zp ti to (NU s.heap.objs.size)->Lj h' to x y->St1 (i+1) h'->St2 (i+1) h'->Lj h' s.heap.objs.size x y->h'.objs.size=s.heap.objs.size+1 ->(∀c o,c≠zp->c≠to->c≠u1->c≠u2->s.heap.get? c=some o->h'.get? c=some o)->Q (some (.ref s.heap.objs.size)) { s with heap:=h',toks:=tk }):C_ (H_ prog w) A (ND (.ref zp)) Q E s:=by
 have hT:s.TypeIs (.ref zp) "zip" := ⟨_,hz,rfl⟩
 unfold ND;exact b_ (Ot (K6 (name:=Mj "__next__") hT F.slot_zip_next (Lx F.slot_zip_next hT F.entry_zip_next
   (Ia Z D1 D2 hz hi ho s1 s2 l1 l2 fun x y h' tk b1 b2 b3 b4 b5 b6 b7 b8 b9=>u_ (hQ x y h' tk b1 b2 b3 b4 b5 b6 b7 b8 b9)) (F.args_zip_next_1 _))))
theorem A5{i:Nat}{Q:Option a_->f_->Prop}(Z:ZA zp ti to u1 u2 f1 f2)(D1:MM prog w A.in1 u1 f1 n1 P1 St1)(D2:MM prog w A.in1 u2 f2 n2 P2 St2)(hz:Nn s.heap zp ti to .none)(hi:Lj s.heap ti (.ref u1) (.ref u2))(ho:Lj s.heap to p q)(s1:St1 i s.heap)(s2:St2 i s.heap)(hend:i=n1\/(i<n1/\i=n2))(hQ:∀h' tk,(∀c o,c≠zp->c≠to->c≠u1->c≠u2->s.heap.get? c=some o->h'.get? c=some o)->Q none { s with heap:=h',toks:=tk }):C_ (H_ prog w) A (ND (.ref zp)) Q E s:=by
 have hT:s.TypeIs (.ref zp) "zip" := ⟨_,hz,rfl⟩
 unfold ND;refine b_ (Ot (K6 (name:=Mj "__next__") hT F.slot_zip_next (Lx F.slot_zip_next hT F.entry_zip_next (GA Z D1 D2 hz hi ho s1 s2 hend fun h' e tk hk he=>?_) (F.args_zip_next_1 _))));obtain⟨o,ho,hc⟩:=he;exact b_ (Qk (T := "StopIteration") (b:=true) ⟨o,ho,hc⟩ isSubtype_stop (u_ (hQ _ _ hk)))
end
abbrev fX(c:String)(l:Addr):Obj:={ cls:=.type c,data:=.fields #[.ref l,.int 0 0] }
abbrev oU(h:Heap)(c1 c2:String)(l1 l2:Addr):Heap:=(h.push (fX c1 l1)).push (fX c2 l2)
abbrev oS(h:Heap)(c1 c2:String)(l1 l2:Addr):Heap:=(oU h c1 c2 l1 l2).push { cls:=.type "tuple",data:=.seq #[.ref h.objs.size,.ref (h.push (fX c1 l1)).objs.size] }
abbrev iQ(h:Heap)(c1 c2:String)(l1 l2:Addr):Heap:=(oS h c1 c2 l1 l2).push { cls:=.type "tuple",data:=.seq #[.none,.none] }
abbrev gT(h:Heap)(c1 c2:String)(l1 l2:Addr):Heap:=(iQ h c1 c2 l1 l2).push { cls:=.type "zip",data:=.fields #[.none,.bool false,.bool false,.ref (oU h c1 c2 l1 l2).objs.size,.ref (oS h c1 c2 l1 l2).objs.size] }
theorem zr{h:Heap}{a:Addr}{xs:Array a_}(x:h.IsTuple a xs)(o:Obj):(h.push o).IsTuple a xs:=let⟨u,hu,r⟩:=x;⟨u,e_ _ hu,r⟩
theorem Hx(l1 l2:Addr)(xs ys:Array a_):Rs (MV.«zip.__new__» ⟨[.type "zip",.ref l1,.ref l2],[]⟩) (fun _ R s=>s.heap.IsList l1 xs/\s.heap.IsList l2 ys /\R (.ok (.ret (.ref (iQ s.heap "list_iterator" "list_iterator" l1 l2).objs.size))) { s with heap:=gT s.heap "list_iterator" "list_iterator" l1 l2 }):=
 .of_wp fun prog w A R s h=>by
  obtain⟨hp,gg,dd,tk,os⟩:=s;obtain⟨q1,q2,h⟩:=h;have hsub:=RI;have e1:Pk (Mz ⟨hp,gg,dd,tk,os⟩) l1 xs:=q1;have e2:Pk (Mz ⟨hp.push (fX "list_iterator" l1),gg,dd,tk,os⟩) l2 ys:=Ql q2 _
  wp_walk using ML e1,ML e2
  exact⟨_,rfl,h⟩
theorem Hz(l1 l2:Addr)(xs ys:Array a_):Rs (MV.«zip.__new__» ⟨[.type "zip",.ref l1,.ref l2],[]⟩) (fun _ R s=>s.heap.IsTuple l1 xs/\s.heap.IsList l2 ys /\R (.ok (.ret (.ref (iQ s.heap "tuple_iterator" "list_iterator" l1 l2).objs.size))) { s with heap:=gT s.heap "tuple_iterator" "list_iterator" l1 l2 }):=
 .of_wp fun prog w A R s h=>by
  obtain⟨hp,gg,dd,tk,os⟩:=s;obtain⟨q1,q2,h⟩:=h;have hsub:=RI;have e1:NP (Mz ⟨hp,gg,dd,tk,os⟩) l1 xs:=q1;have e2:Pk (Mz ⟨hp.push (fX "tuple_iterator" l1),gg,dd,tk,os⟩) l2 ys:=Ql q2 _
  wp_walk using Ls e1,ML e2
  exact⟨_,rfl,h⟩
theorem HA(l1 l2:Addr)(xs ys:Array a_):Rs (MV.«zip.__new__» ⟨[.type "zip",.ref l1,.ref l2],[]⟩) (fun _ R s=>s.heap.IsTuple l1 xs/\s.heap.IsTuple l2 ys /\R (.ok (.ret (.ref (iQ s.heap "tuple_iterator" "tuple_iterator" l1 l2).objs.size))) { s with heap:=gT s.heap "tuple_iterator" "tuple_iterator" l1 l2 }):=
 .of_wp fun prog w A R s h=>by
  obtain⟨hp,gg,dd,tk,os⟩:=s;obtain⟨q1,q2,h⟩:=h;have hsub:=RI;have e1:NP (Mz ⟨hp,gg,dd,tk,os⟩) l1 xs:=q1;have e2:NP (Mz ⟨hp.push (fX "tuple_iterator" l1),gg,dd,tk,os⟩) l2 ys:=zr q2 _
  wp_walk using Ls e1,Ls e2
  exact⟨_,rfl,h⟩
theorem Hy(l1 l2:Addr)(xs ys:Array a_):Rs (MV.«zip.__new__» ⟨[.type "zip",.ref l1,.ref l2],[]⟩) (fun _ R s=>s.heap.IsList l1 xs/\s.heap.IsTuple l2 ys /\R (.ok (.ret (.ref (iQ s.heap "list_iterator" "tuple_iterator" l1 l2).objs.size))) { s with heap:=gT s.heap "list_iterator" "tuple_iterator" l1 l2 }):=
 .of_wp fun prog w A R s h=>by
  obtain⟨hp,gg,dd,tk,os⟩:=s;obtain⟨q1,q2,h⟩:=h;have hsub:=RI;have e1:Pk (Mz ⟨hp,gg,dd,tk,os⟩) l1 xs:=q1;have e2:NP (Mz ⟨hp.push (fX "list_iterator" l1),gg,dd,tk,os⟩) l2 ys:=zr q2 _
  wp_walk using ML e1,Ls e2
  exact⟨_,rfl,h⟩
section
variable{prog:E_}{w:Kz}{A:KM}{E:a_->f_->Prop}{s:f_}
def gy(s:f_)(c1 c2:String)(l1 l2:Addr)(Q:a_->f_->Prop):Prop:=∀h',Nn h' (s.heap.objs.size+4) (s.heap.objs.size+2) (s.heap.objs.size+3) .none->Lj h' (s.heap.objs.size+2) (.ref s.heap.objs.size) (.ref (s.heap.objs.size+1)) ->Lj h' (s.heap.objs.size+3) .none .none->h'.get? s.heap.objs.size=some (fX c1 l1)->h'.get? (s.heap.objs.size+1)=some (fX c2 l2) ->(∀c o,s.heap.get? c=some o->h'.get? c=some o)->Q (.ref (s.heap.objs.size+4)) { s with heap:=h' }
theorem oI{c1 c2:String}{l1 l2:Addr}{Q:a_->f_->Prop}(h:gy s c1 c2 l1 l2 Q):(∃o,(gT s.heap c1 c2 l1 l2).get? (iQ s.heap c1 c2 l1 l2).objs.size=some o/\o.cls=.type "zip")/\Q (.ref (iQ s.heap c1 c2 l1 l2).objs.size) { s with heap:=gT s.heap c1 c2 l1 l2 }:=by
 have z1:(s.heap.push (fX c1 l1)).objs.size=s.heap.objs.size+1:=Lo ..;have z2:(oU s.heap c1 c2 l1 l2).objs.size=s.heap.objs.size+2:=by rw[Lo,z1]
 have z3:(oS s.heap c1 c2 l1 l2).objs.size=s.heap.objs.size+3:=by rw[Lo,z2]
 have z4:(iQ s.heap c1 c2 l1 l2).objs.size=s.heap.objs.size+4:=by rw[Lo,z3]
 have g5:(gT s.heap c1 c2 l1 l2).get? (iQ s.heap c1 c2 l1 l2).objs.size=some _:=y_ _ rfl;have g4:(gT s.heap c1 c2 l1 l2).get? (oS s.heap c1 c2 l1 l2).objs.size=some _:=e_ _ (y_ _ rfl);have g3:(gT s.heap c1 c2 l1 l2).get? (oU s.heap c1 c2 l1 l2).objs.size=some _:=e_ _ (e_ _ (y_ _ rfl));have g2:(gT s.heap c1 c2 l1 l2).get? (s.heap.push (fX c1 l1)).objs.size=some (fX c2 l2):=e_ _ (e_ _ (e_ _ (y_ _ rfl)));have g1:(gT s.heap c1 c2 l1 l2).get? s.heap.objs.size=some (fX c1 l1):=e_ _ (e_ _ (e_ _ (e_ _ (y_ _ rfl))));rw[z2,z3,z4]at g5;rw[z1,z2]at g3;rw[z3]at g4;rw[z1]at g2;rw[z4];exact⟨⟨_,g5,rfl⟩,h _ g5 g3 g4 g1 g2 fun c o x=>e_ _ (e_ _ (e_ _ (e_ _ (e_ _ x))))⟩
theorem F7{l1 l2:Addr}{xs ys:Array a_}{Q:a_->f_->Prop}(q1:s.heap.IsList l1 xs)(q2:s.heap.IsList l2 ys)(h:gy s "list_iterator" "list_iterator" l1 l2 Q):C_ (H_ prog w) A (call (.type "zip") [.ref l1,.ref l2]) Q E s:=NQ F.called_zip (by decide) (F.typeCall_zip_2 _ _) (F.newCall_zip_2 _ _) (fun obj=>F.args_object_init_3 obj _ _) F.entry_zip_new (Hx l1 l2 xs ys) ⟨q1,q2,oI h⟩
theorem F9{l1 l2:Addr}{xs ys:Array a_}{Q:a_->f_->Prop}(q1:s.heap.IsTuple l1 xs)(q2:s.heap.IsList l2 ys)(h:gy s "tuple_iterator" "list_iterator" l1 l2 Q):C_ (H_ prog w) A (call (.type "zip") [.ref l1,.ref l2]) Q E s:=NQ F.called_zip (by decide) (F.typeCall_zip_2 _ _) (F.newCall_zip_2 _ _) (fun obj=>F.args_object_init_3 obj _ _) F.entry_zip_new (Hz l1 l2 xs ys) ⟨q1,q2,oI h⟩
theorem Ga{l1 l2:Addr}{xs ys:Array a_}{Q:a_->f_->Prop}(q1:s.heap.IsTuple l1 xs)(q2:s.heap.IsTuple l2 ys)(h:gy s "tuple_iterator" "tuple_iterator" l1 l2 Q):C_ (H_ prog w) A (call (.type "zip") [.ref l1,.ref l2]) Q E s:=NQ F.called_zip (by decide) (F.typeCall_zip_2 _ _) (F.newCall_zip_2 _ _) (fun obj=>F.args_object_init_3 obj _ _) F.entry_zip_new (HA l1 l2 xs ys) ⟨q1,q2,oI h⟩
theorem F8{l1 l2:Addr}{xs ys:Array a_}{Q:a_->f_->Prop}(q1:s.heap.IsList l1 xs)(q2:s.heap.IsTuple l2 ys)(h:gy s "list_iterator" "tuple_iterator" l1 l2 Q):C_ (H_ prog w) A (call (.type "zip") [.ref l1,.ref l2]) Q E s:=NQ F.called_zip (by decide) (F.typeCall_zip_2 _ _) (F.newCall_zip_2 _ _) (fun obj=>F.args_object_init_3 obj _ _) F.entry_zip_new (Hy l1 l2 xs ys) ⟨q1,q2,oI h⟩
end
end
def d5(K:W.Frag)(t:Bool)(a:Addr)(H:Hp)(xs:List V):Prop:=match t with
|false=>aO K H a xs
|true=>bF K H a xs
def jJ(t:Bool)(a u:Addr)(i:Nat)(h:Heap):Prop:=match t with
|false=>h.IsListIter u a i
|true=>h.IsTupleIter u a i
abbrev vM(t:Bool):String:=match t with
|false => "list_iterator"
|true => "tuple_iterator"
theorem oG{t:Bool}{a u:Addr}{h:Heap}(e:h.get? u=some (fX (vM t) a)):jJ t a u 0 h:=by cases t <;> exact⟨_,e,rfl,rfl⟩
theorem oH{t:Bool}{a u:Addr}{i:Nat}{h:Heap}(e:jJ t a u i h):∃o,h.get? u=some o/\∀v,o.data≠.cell v:=by cases t <;> (obtain⟨o,ho,hc,hd⟩:=e;exact⟨o,ho,fun v z=>by rw[hd]at z;cases z⟩)
theorem oZ{t:Bool}{a u:Addr}{i:Nat}{h h':Heap}(e:jJ t a u i h)(k:∀o,h.get? u=some o->h'.get? u=some o):jJ t a u i h':=by cases t <;> (obtain⟨o,ho,r⟩:=e;exact⟨o,k o ho,r⟩)
section
variable{X:Cx}{pz:List (Addr×Obj)}{σ:L2.St}{H:Hp}{s:f_}{t:Bool}{a u:Addr}{xs ys:List V}{i:Nat}
theorem nY(I:Inv X pz σ H s)(hc:X.calm=true)(hq:d5 X.K t a H xs)(hau:a≠u)(hi:jJ t a u i s.heap):∃(its:List a_)(St:Nat->Heap->Prop),ak xs its/\MM X.prog X.w X.A.in1 u [u,a] its.toArray.size (fun i v=>its.toArray[i]? = some v) St/\St i s.heap/\∀j h',St j h'->jJ t a u j h':=by cases t with
|false=>obtain⟨its,rv,p,hz⟩:=I.list hq;exact⟨its,_,rv,OW (A:=X.A.in1) (show X.A.in1.handled=none from I.ok.hd hc) u a hau its.toArray,⟨hi,p.isList⟩,fun j h' st=>st.1⟩
|true=>obtain⟨its,rv,p,hz⟩:=I.tuple hq;exact⟨its,_,rv,qV (A:=X.A.in1) (show X.A.in1.handled=none from I.ok.hd hc) u a hau its.toArray,⟨hi,p⟩,fun j h' st=>st.1⟩
theorem yt(I:Inv X pz σ H s)(h1:d5 X.K t a H xs)(h2:d5 X.K t a H ys):xs=ys:=by cases t with
|false=>exact I.list_inj h1 h2
|true=>exact I.tuple_inj h1 h2
theorem ph(I:Inv X pz σ H s)(h1:d5 X.K t a H xs):a<s.heap.objs.size:=by cases t with
|false=>obtain⟨its,rv,p,hz⟩:=I.list h1;obtain⟨o,ho,_⟩:=p.isList;exact o_ ho
|true=>obtain⟨its,rv,p,hz⟩:=I.tuple h1;obtain⟨o,ho,_⟩:=id p;exact o_ ho
theorem HR{h':Heap}{ch:List Addr}{t':Nat}(I:Inv X pz σ H s)(hch:∀b∈ch,cO X pz H b)(k:∀b ob,b∉ch->s.heap.get? b=some ob->h'.get? b=some ob):Inv X pz σ H { s with heap:=h',toks:=t' }:=by
 have trk:∀b u,H b=some u->b∉ch:=fun b u e hb=>by rw[(hch b hb).1]at e;cases e
 refine I.step (g':=s.gens) (d':=s.drawn) (ch:=ch) (fun b hb=>?_) (fun b ob _ _ hc e _=>k b ob hc e) (fun b ob _ _ hc e _=>⟨ob.slots,k b ob hc e⟩) (fun b ob hc e n=>n)
  (fun b ob hc e=>⟨ob,k b ob hc e⟩) (fun b xs e=>e) (fun b ob u e=>e) (fun b ps e=>⟨#[],by rw[e];simp⟩) (fun m hm=>?_) (fun b u e=>?_) I.bare
 .obtain⟨z0,z1,z2,z3,z4,z5⟩:=hch b hb;exact⟨z3,z1,z4,z5⟩
 .obtain⟨ob,es,ep,ho,r⟩:=hm;exact⟨ob,es,ep,k _ ob (fun hb=>(hch _ hb).2.1 rfl) ho,r⟩
 .refine(I.hok b u e).stay (fun c v hc q=>k c v ?_ q) (fun c q=>q) fun c xs q=>q;rcases hc with z|z
  .rw[z];exact trk b u e
  .exact trk c _ z
end
def qr(sq1 sq2:Hp->List V->Prop):It:=⟨fun i H=>∃xs ys x y,sq1 H xs/\sq2 H ys/\xs[i]? = some x/\ys[i]? = some y,fun i H x H'=>∃p v u,H p=none/\x=.ref p/\H'=upd H p (.tup [v,u])/\(∀xs,sq1 H xs->xs[i]? = some v)/\∀ys,sq2 H ys->ys[i]? = some u,fun i H=>∃xs ys,sq1 H xs/\sq2 H ys/\min xs.length ys.length=i⟩
theorem y7{P:E_}{w:Kz}{H:Hp}{h:Heap}{T:Addr}{x y:a_}{v u:V}(hT:h.get? T=some { cls:=.type "tuple",data:=.seq #[x,y] })(r1:L2.aq v x)(r2:L2.aq u y):bx P w H h T (.tup [v,u]):=⟨by show 2<=sizeLine;decide,[x,y],.cons r1 (.cons r2 .nil),⟨_,hT,rfl,0,rfl⟩,_,hT,rfl⟩
theorem Gz{P:E_}{w:Kz}{K:W.Frag}{elts:List Expr}{k:Nat}{pos:Pos}{t1 t2:Bool}(a b zp ti to u1 u2:Addr)(Z:ZA zp ti to u1 u2 [u1,a] [u2,b])(h1:a≠u1)(h2:b≠u2):Turn P w K (.Tuple elts k pos) (qr (d5 K t1 a) (d5 K t2 b)) [zp,ti,to,u1,u2] zp (fun i h=>Nn h zp ti to .none/\Lj h ti (.ref u1) (.ref u2)/\(∃p q,Lj h to p q)/\jJ t1 a u1 i h/\jJ t2 b u2 i h) where
 mem:=by simp
 obj:=fun i h st c hc=>by
  obtain⟨hz,hi,⟨p,q,ho⟩,s1,s2⟩:=st;simp only[z_,L6,or_false]at hc;rcases hc with rfl|rfl|rfl|rfl|rfl
  .exact⟨_,hz,fun v z=>by have z':Data.fields _=Data.cell v:=z;cases z'⟩
  .exact⟨_,hi,fun v z=>by have z':Data.seq _ _=Data.cell v:=z;cases z'⟩
  .exact⟨_,ho,fun v z=>by have z':Data.seq _ _=Data.cell v:=z;cases z'⟩
  .exact oH s1
  .exact oH s2
 keep:=fun i h h' st kk=>by obtain⟨hz,hi,⟨p,q,ho⟩,s1,s2⟩:=st;exact⟨kk zp (by simp) _ hz,kk ti (by simp) _ hi,⟨p,q,kk to (by simp) _ ho⟩,oZ s1 fun o e=>kk u1 (by simp) o e,oZ s2 fun o e=>kk u2 (by simp) o e⟩
 item:=by
  intro X hP hw hK hc i pz s σ H E I hf st hg;subst hP hw hK;obtain⟨xs,ys,x,y,q1,q2,hx,hy⟩:=hg;obtain⟨hz,hi,⟨p,q,ho⟩,s1,s2⟩:=st;obtain⟨its1,St1,rv1,D1,d1,f1⟩:=nY I hc q1 h1 s1;obtain⟨its2,St2,rv2,D2,d2,f2⟩:=nY I hc q2 h2 s2;have l1:i<its1.toArray.size:=by have:=(c_.mp hx).1;rw[n_,<-rv1.length];exact this
  have l2:i<its2.toArray.size:=by have:=(c_.mp hy).1;rw[n_,<-rv2.length];exact this
  refine AX Z D1 D2 hz hi ho d1 d2 l1 l2 fun vx vy h' tk px py hz' hto' st1' st2' hT hsz hk=>⟨_,rfl,wpAny_letOwnedTupleGo_zip hz' fun h'' hz'' hs''=>?_⟩
  obtain⟨wx,e1,r1⟩:=rv1.get hx;obtain⟨wy,e2,r2⟩:=rv2.get hy;have ex:vx=wx:=by
   have:its1[i]? = some vx:=by simpa using px
   rw[e1]at this;exact(G_ this).symm
  have ey:vy=wy:=by
   have:its2[i]? = some vy:=by simpa using py
   rw[e2]at this;exact(G_ this).symm
  subst ex ey;have nT:∀c o,s.heap.get? c=some o->s.heap.objs.size≠c:=fun c o e=>KL (o_ e);have hT'':h''.get? s.heap.objs.size=some { cls:=.type "tuple",data:=.seq #[vx,vy] }:=(hs''.2 _ (nT _ _ hz)).trans hT;obtain⟨o1,ho1,_⟩:=oH s1;obtain⟨o2,ho2,_⟩:=oH s2;refine⟨.ref s.heap.objs.size,upd H s.heap.objs.size (.tup [x,y]),sd (s:=s) (h':=h'') (t':=tk) (ch:=[zp,to,u1,u2]) I (fun c hc=>hf c ?_) (fun c ob hb e=>?_) (q_ _) (y7 hT'' r1 r2),rfl,⟨_,x,y,I.hok.fresh (q_ _),rfl,rfl,fun zs hz=>by rw[yt I hz q1];exact hx,fun zs hz=>by rw[yt I hz q2];exact hy⟩,⟨hz'',?_,⟨vx,vy,?_⟩,?_,?_⟩,fun c hc=>?_⟩
  .simp only[z_,L6,or_false]at hc ⊢;rcases hc with rfl|rfl|rfl|rfl <;> simp
  .simp only[z_,L6,or_false,not_or]at hb;exact(hs''.2 c hb.1).trans (hk c ob hb.1 hb.2.1 hb.2.2.1 hb.2.2.2 e)
  .exact(hs''.2 _ Z.a1).trans (hk _ _ Z.a1 Z.a8.1 Z.a8.2.1 Z.a8.2.2 hi)
  .exact(hs''.2 _ Z.a2).trans hto'
  .exact oZ (f1 _ _ st1') fun o e=>(hs''.2 _ Z.a3).trans e
  .exact oZ (f2 _ _ st2') fun o e=>(hs''.2 _ Z.a4).trans e
  .rw[bg ?_]
   .exact(hf c hc).1
   .simp only[z_,L6,or_false]at hc;rcases hc with rfl|rfl|rfl|rfl|rfl
    .exact(nT _ _ hz).symm
    .exact(nT _ _ hi).symm
    .exact(nT _ _ ho).symm
    .exact(nT _ _ ho1).symm
    .exact(nT _ _ ho2).symm
 done:=by
  intro X hP hw hK hc i pz s σ H E I hf st hg;subst hP hw hK;obtain⟨xs,ys,q1,q2,hm⟩:=hg;obtain⟨hz,hi,⟨p,q,ho⟩,s1,s2⟩:=st;obtain⟨its1,St1,rv1,D1,d1,f1⟩:=nY I hc q1 h1 s1;obtain⟨its2,St2,rv2,D2,d2,f2⟩:=nY I hc q2 h2 s2;have l1:=rv1.length;have l2:=rv2.length;refine A5 Z D1 D2 hz hi ho d1 d2 ?_ fun h' tk hk=>⟨rfl,HR (h':=h') (t':=tk) (ch:=[zp,to,u1,u2]) I (fun c hc=>hf c ?_) fun c ob hb e=>?_⟩
  .rw[n_,n_];omega
  .simp only[z_,L6,or_false]at hc ⊢;rcases hc with rfl|rfl|rfl|rfl <;> simp
  .simp only[z_,L6,or_false,not_or]at hb;exact hk c ob hb.1 hb.2.1 hb.2.2.1 hb.2.2.2 e
 self:=fun _ _ _ _ _ st h=>OF st.1 h
def jl(fa fb:FE):FI:=fun r=>(fa r).bind fun d=>(fb r).bind fun e=>(bH (bv d)).bind fun ds=>(bH (bv e)).bind fun es=>.ok (LR (fun a b=>D.tup [a,b]) ds es)
theorem GB{α β γ:Type}(f:α->β->γ):∀(l:List α)(r:List β)(i:Nat),(LR f l r)[i]? = (match l[i]?,r[i]? with|some a,some b=>some (f a b)|_,_=>none):=fun l r i=>by rw[O_];cases l[i]? <;> cases r[i]? <;> rfl
theorem E7{K:W.Frag}{ds es:List D}{G0:GH}{sq1 sq2:Hp->List V->Prop}(h1:∀G H,aI G0 G->aC K G H->∃xs,sq1 H xs/\ba K G xs ds)(h2:∀G H,aI G0 G->aC K G H->∃xs,sq2 H xs/\ba K G xs es):Yields K (qr sq1 sq2) (LR (fun a b=>D.tup [a,b]) ds es) G0:=by
 refine⟨fun G H i w gk hi=>?_,fun G H i x H' d w gk y e=>?_,fun G H w gk=>?_⟩
 .obtain⟨xs,s1,r1⟩:=h1 G H w gk;obtain⟨ys,s2,r2⟩:=h2 G H w gk;rw[NL]at hi;have l1:=Paired.length r1;have l2:=Paired.length r2;exact⟨xs,ys,xs[i]'(by omega),ys[i]'(by omega),s1,s2,d_ _,d_ _⟩
 .obtain⟨xs,s1,r1⟩:=h1 G H w gk;obtain⟨ys,s2,r2⟩:=h2 G H w gk;obtain⟨p,v,u,hp,rfl,rfl,hv,hu⟩:=y;rw[GB]at e;cases e1:ds[i]? with
 |none=>rw[e1]at e;cases e
 |some d1=>cases e2:es[i]? with
  |none=>rw[e1,e2]at e;cases e
  |some d2=>rw[e1,e2]at e;cases e;obtain⟨v',z1,rv⟩:=Paired.get r1 e1;obtain⟨u',z2,ru⟩:=Paired.get r2 e2;have a1:=hv xs s1;have a2:=hu ys s2;rw[z1]at a1;cases a1;rw[z2]at a2;cases a2;exact⟨_,Grow.newF gk hp (.tup (.inl bO) (.cons rv (.cons ru .nil))),.ref dh⟩
 .obtain⟨xs,s1,r1⟩:=h1 G H w gk;obtain⟨ys,s2,r2⟩:=h2 G H w gk;refine⟨xs,ys,s1,s2,?_⟩;rw[NL,Paired.length r1,Paired.length r2]
section
variable{X:Cx}{g:GE}{m:List Md}{e1 e2:Expr}{fa fb:FE}{pos p pos2:Pos}{elts:List Expr}{kk:Nat}
theorem xV{pz:List (Addr×Obj)}{σ:L2.St}{H:Hp}{s:f_}{t1 t2:Bool}{a b:Addr}{xs ys:List V}{E:a_->f_->Prop}{Q:a_->f_->Prop}(I:Inv X pz σ H s)(q1:d5 X.K t1 a H xs)(q2:d5 X.K t2 b H ys)(h:gy s (vM t1) (vM t2) a b Q):C_ (H_ X.prog X.w) X.A (call (.type "zip") [.ref a,.ref b]) Q E s:=by cases t1 with
|false=>obtain⟨its1,_,p1,_⟩:=I.list q1;cases t2 with
 |false=>obtain⟨its2,_,p2,_⟩:=I.list q2;exact F7 p1.isList p2.isList h
 |true=>obtain⟨its2,_,p2,_⟩:=I.tuple q2;exact F8 p1.isList (show s.heap.IsTuple b its2.toArray from p2) h
|true=>obtain⟨its1,_,p1,_⟩:=I.tuple q1;cases t2 with
 |false=>obtain⟨its2,_,p2,_⟩:=I.list q2;exact F9 (show s.heap.IsTuple a its1.toArray from p1) p2.isList h
 |true=>obtain⟨its2,_,p2,_⟩:=I.tuple q2;exact Ga (show s.heap.IsTuple a its1.toArray from p1) (show s.heap.IsTuple b its2.toArray from p2) h
theorem iz{x y:Nat}(h:x≠y):(show Addr from x)≠(show Addr from y):=h
theorem lz{x u a:Nat}(h1:x≠u)(h2:x≠a):(show Addr from x)∉[(show Addr from u),(show Addr from a)]:=fun h=>by
 rcases z_.mp h with h|h
 .exact h1 h
 .exact h2 (t_.mp h)
theorem xL{a b k:Nat}(la:a<k)(lb:b<k):ZA (show Addr from k+4) (show Addr from k+2) (show Addr from k+3) (show Addr from k) (show Addr from k+1) [(show Addr from k),(show Addr from a)] [(show Addr from k+1),(show Addr from b)]:=⟨iz (by omega),iz (by omega),iz (by omega),iz (by omega),iz (by omega),iz (by omega),iz (by omega),⟨iz (by omega),iz (by omega),iz (by omega)⟩,⟨lz (by omega) (by omega),lz (by omega) (by omega),lz (by omega) (by omega)⟩,⟨lz (by omega) (by omega),lz (by omega) (by omega),lz (by omega) (by omega)⟩⟩
theorem Df{c k:Nat}(h:c=k+4\/c=k+2\/c=k+3\/c=k\/c=k+1):k<=c:=by omega
theorem DZ{ta tb:TE}(hg:Gl X "zip")(hm:X.mg "zip" = none)(ha:PE X e1 ta)(hb:PE X e2 tb)(hs:m_ [e1,e2] X.env=(false,eval e1 X.env)::m_ [e2] X.env:=by rfl)(hs2:m_ [e2] X.env=(false,eval e2 X.env)::m_ [] X.env:=by rfl)(hpl:(backTo pos (m_ [e2] X.env)).any (·.1)=false:=by rfl):PI X (.Tuple elts kk pos2) (.Call (.Name "zip" p) [e1,e2] [] pos) (fun σ H R=>ta σ H fun x H1=>tb σ H1 fun y H2=>∃(t1 t2:Bool)(a b:Addr),x=.ref a/\y=.ref b/\(∃xs,d5 X.K t1 a H2 xs)/\(∃ys,d5 X.K t2 b H2 ys)/\R (qr (d5 X.K t1 a) (d5 X.K t2 b)) H2):=by
 intro pz s σ H R I h;refine Call_ (jy I hg hm boot_zip (Lf (aH (gb ha (gb hb iU hs2) hs pos pz s σ H (fun vs H2=>match vs with
 |[x,y]=>∃(t1 t2:Bool)(a b:Addr),x=.ref a/\y=.ref b/\(∃xs,d5 X.K t1 a H2 xs)/\(∃ys,d5 X.K t2 b H2 ys)/\R (qr (d5 X.K t1 a) (d5 X.K t2 b)) H2
 |_=>False) I h) fun us s1 ⟨vs,H1,I1,r1,q1⟩=>?_) hs hpl))
 cases r1 with
|nil=>exact q1.elim
|@cons x u xs us rx rt=>cases rt with
|nil=>exact q1.elim
|@cons y u' xs' us' ry rt'=>cases rt' with
|cons _ _=>exact q1.elim
|nil=>
 obtain⟨t1,t2,a,b,rfl,rfl,⟨zs,z1⟩,⟨ws,z2⟩,q⟩:=q1;cases rx;cases ry;have la:=ph I1 z1;have lb:=ph I1 z2;refine xV I1 z1 z2 fun h' hz hi ho o1 o2 kp=>OF hz ?_;refine⟨_,[s1.heap.objs.size+4,s1.heap.objs.size+2,s1.heap.objs.size+3,s1.heap.objs.size,s1.heap.objs.size+1],_,_,H1,rfl,I1.kept (t':=s1.toks) kp,Gz (t1:=t1) (t2:=t2) a b _ _ _ _ _ (xL la lb) (D_ la) (D_ (Nk lb)),⟨hz,hi,⟨_,_,ho⟩,oG o1,oG o2⟩,fun c hc=>?_,q⟩;have hge:s1.heap.objs.size<=c:=by simp only[z_,L6,or_false]at hc;exact Df hc
 exact I1.fpOk hge (I1.hok.fresh hge)
theorem CG(hg:Gl X "zip")(hm:X.mg "zip" = none)(ha:SE X g m e1 fa)(hb:SE X g m e2 fb)(hs:m_ [e1,e2] X.env=(false,eval e1 X.env)::m_ [e2] X.env:=by rfl)(hs2:m_ [e2] X.env=(false,eval e2 X.env)::m_ [] X.env:=by rfl)(hpl:(backTo pos (m_ [e2] X.env)).any (·.1)=false:=by rfl):iJ X g m (.Tuple elts kk pos2) (.Call (.Name "zip" p) [e1,e2] [] pos) (jl fa fb):=by
 refine PI.imp (DZ hg hm ha hb hs hs2 hpl) fun σ H R ⟨r,G,si,q⟩=>⟨r,G,si,a9 (aU q) fun d q v G1 H1 w1 rv=>⟨r,G1,si.grow w1,?_⟩⟩
 refine eV (aU q) w1 fun e q u G2 H2 w2 ru=>?_;obtain⟨ds,ed,q⟩:=cv (aU q);obtain⟨es,ee,q⟩:=cv (aU q);have rv2:=rv.mono w2.ge;have one:∀{v:V}{d:D}{ds:List D},RG X.K G2 v d->bv d=some ds->∃(t:Bool)(a:Addr),v=.ref a/\(∃xs,d5 X.K t a H2 xs)/\∀G H,aI G2 G->aC X.K G H->∃xs,d5 X.K t a H xs/\ba X.K G xs ds:=by intro v d ds rv ed;cases d with
 |lst ds'=>cases ed;obtain⟨a,xs,rfl,s,rs⟩:=rv.lst w2.ok;refine⟨false,a,rfl,⟨xs,s⟩,fun G H le gk=>?_⟩;obtain⟨b,ys,e,s',r'⟩:=(rv.mono le).lst gk;cases e;exact⟨ys,s',r'⟩
 |tup ds'=>cases ed;obtain⟨a,xs,rfl,s,rs⟩:=rv.tup w2.ok;refine⟨true,a,rfl,⟨xs,s⟩,fun G H le gk=>?_⟩;obtain⟨b,ys,e,s',r'⟩:=(rv.mono le).tup gk;cases e;exact⟨ys,s',r'⟩
 |_=>cases ed
 obtain⟨t1,a,rfl,x1,y1⟩:=one rv2 ed;obtain⟨t2,b,rfl,x2,y2⟩:=one ru ee;exact⟨t1,t2,a,b,rfl,rfl,x1,x2,q _ G2 H2 (w1.trans w2) (E7 y1 y2)⟩
end
end DL
namespace DL
open PySem PySem.Spec PyProof.Rows L2 PySem.W PySem.Calls
abbrev fJ(h:Heap)(z ti to:Addr)(T:Addr)(b:Bool):Prop:=h.get? z=some { cls:=.type "zip",dict:=none,data:=.fields #[NU T,.bool b,.bool false,.ref ti,.ref to],slots:=#[] }
section
variable{prog:E_}{w:Kz}{A:KM}{E:a_->f_->Prop}{s:f_}{zp ti to u1 u2 T:Addr}{b:Bool}{oT:Obj}{f1 f2:List Addr}{n1 n2:Nat}{P1 P2:Nat->a_->Prop}{St1 St2:Nat->Heap->Prop}
theorem yu{Q:Bool->f_->Prop}(hz:fJ s.heap zp ti to T b)(hT:s.heap.get? T=some oT)(hne:T≠zp)(h:∀h',fJ h' zp ti to T true->NM zp s.heap h'->Q false { s with heap:=h' }):C_ (H_ prog w) A (Kw (.ref zp)) Q E s:=by unfold Kw;refine b_ (K0 hz rfl (x:=NU T) rfl ?_);show C_ _ _ (loadIfAlive ((T:Int).toNat) >>= _) _ _ _;rw[LU];refine b_ (kdx_alive hT ?_);simp only[Option.isNone_some,L8,if_false];refine b_ (K0 hz rfl (x:=.bool b) rfl ?_);cases b with
|true=>rw[if_neg (show ¬ ((Value.bool true != Value.bool true)=true)from i_)];exact u_ (h _ hz (Heap.SameBut.refl _ _))
|false=>rw[if_pos (show((Value.bool false != Value.bool true)=true)from rfl)];exact b_ (LP hz (by simp) fun g hg k=>u_ (h g hg k))
theorem Fk{i:Nat}{Q:a_->f_->Prop}(Z:ZA zp ti to u1 u2 f1 f2)(D1:MM prog w A u1 f1 n1 P1 St1)(D2:MM prog w A u2 f2 n2 P2 St2)(hz:fJ s.heap zp ti to T b)(hT:s.heap.get? T=some oT)(hne:T≠zp/\T≠u1/\T≠u2)(hi:Lj s.heap ti (.ref u1) (.ref u2))(s1:St1 i s.heap)(s2:St2 i s.heap)(l1:i<n1)(l2:i<n2)(hQ:∀x y h' tk,P1 i x->P2 i y->fJ h' zp ti to T true->St1 (i+1) h'->St2 (i+1) h'->Lj h' s.heap.objs.size x y->h'.objs.size=s.heap.objs.size+1 ->(∀c o,c≠zp->c≠u1->c≠u2->s.heap.get? c=some o->h'.get? c=some o)->Q (.ref s.heap.objs.size) { s with heap:=h',toks:=tk }):C_ (H_ prog w) A (MV.«zip.__next__» ⟨[.ref zp],[]⟩) (fun fin s'=>∃v,fin=.done (.ret v)/\Q v s') E s:=by
 show C_ _ _ (Ph (.ref zp) 2 >>= _) _ _ _;refine b_ (K0 hz rfl (x:=.bool false) rfl ?_);show C_ _ _ (Ph (.ref zp) 3 >>= _) _ _ _;refine b_ (K0 hz rfl (x:=.ref ti) rfl (b_ (Lp hi rfl ?_)));show C_ _ _ (Kw (.ref zp) >>= _) _ _ _;refine b_ (yu hz hT hne.1 fun g1 hz1 k1=>?_);simp only[L8,if_false];refine b_ ?_;rw[<-PL];simp only[LX,N5];refine b_ (b_ (Ll ?_));show C_ _ _ (Ku (.ref u1) >>= _) _ _ _;refine b_ (D1.item i _ _ _ l1 (D1.at' s1 k1.extBut Z.b1.1) fun x g2 t2 px st1 k2=>u_ ?_);refine u_ ?_;refine b_ (b_ (Ll ?_));show C_ _ _ (Ku (.ref u2) >>= _) _ _ _;refine b_ (D2.item i _ _ _ l2 (D2.at' (D2.at' s2 k1.extBut Z.b2.1) k2.extBut Z.b2.2.2) fun y g3 t3 py st2 k3=>u_ ?_);refine u_ (u_ ?_);have hsz:g3.objs.size=s.heap.objs.size:=by rw[k3.1,k2.1,k1.1]
 show C_ _ _ (newTuple [x,y] >>= _) _ _ _;refine b_ (Pf ?_);have hz3:fJ g3 zp ti to T true:=k3.extBut _ _ Z.a4.symm (k2.extBut _ _ Z.a3.symm hz1);have st13:St1 (i+1) g3:=D1.at' st1 k3.extBut Z.b1.2.2;have up:∀c o,g3.get? c=some o->(g3.push { cls:=.type "tuple",data:=.seq #[x,y] }).get? c=some o:=fun c o e=>e_ _ e;refine u_ ⟨_,rfl,?_⟩;have hT':Lj (g3.push { cls:=.type "tuple",data:=.seq #[x,y] }) g3.objs.size x y:=y_ _ rfl;show Q (.ref g3.objs.size) _;rw[hsz]at hT' ⊢;refine hQ x y _ _ px py (up _ _ hz3) (D1.frame _ _ _ st13 fun b hb o e=>up b o e) (D2.frame _ _ _ st2 fun b hb o e=>up b o e) hT' (by rw[Lo,hsz]) fun c o c1 c3 c4 e=>up c o ?_;exact k3.extBut _ _ c4 (k2.extBut _ _ c3 (k1.extBut _ _ c1 e))
theorem E8{i:Nat}{Q:Fin->f_->Prop}(Z:ZA zp ti to u1 u2 f1 f2)(D1:MM prog w A u1 f1 n1 P1 St1)(D2:MM prog w A u2 f2 n2 P2 St2)(hz:fJ s.heap zp ti to T b)(hT:s.heap.get? T=some oT)(hne:T≠zp/\T≠u1/\T≠u2)(hi:Lj s.heap ti (.ref u1) (.ref u2))(s1:St1 i s.heap)(s2:St2 i s.heap)(hend:i=n1\/(i<n1/\i=n2))(hE:∀h' e tk,(∀c o,c≠zp->c≠u1->c≠u2->s.heap.get? c=some o->h'.get? c=some o)->(∃o,h'.get? e=some o/\o.cls=.type "StopIteration")->E (.ref e) { s with heap:=h',toks:=tk }):C_ (H_ prog w) A (MV.«zip.__next__» ⟨[.ref zp],[]⟩) Q E s:=by
 show C_ _ _ (Ph (.ref zp) 2 >>= _) _ _ _;refine b_ (K0 hz rfl (x:=.bool false) rfl ?_);show C_ _ _ (Ph (.ref zp) 3 >>= _) _ _ _;refine b_ (K0 hz rfl (x:=.ref ti) rfl (b_ (Lp hi rfl ?_)));show C_ _ _ (Kw (.ref zp) >>= _) _ _ _;refine b_ (yu hz hT hne.1 fun g1 hz1 k1=>?_);simp only[L8,if_false];refine b_ ?_;rw[<-PL];simp only[LX,N5];refine b_ (b_ (Ll ?_));show C_ _ _ (Ku (.ref u1) >>= _) _ _ _;rcases hend with hend|⟨hlt,hend⟩
 .subst hend;exact b_ (D1.done _ _ _ (D1.at' s1 k1.extBut Z.b1.1) fun g2 e k2 he=>hE g2 e _ (fun c o c1 c3 _ x=>k2 _ _ c3 (k1.extBut _ _ c1 x)) he)
 .subst hend;refine b_ (D1.item _ _ _ _ hlt (D1.at' s1 k1.extBut Z.b1.1) fun x g2 t2 px st1 k2=>u_ ?_);refine u_ ?_;refine b_ (b_ (Ll ?_));show C_ _ _ (Ku (.ref u2) >>= _) _ _ _;exact b_ (D2.done _ _ _ (D2.at' (D2.at' s2 k1.extBut Z.b2.1) k2.extBut Z.b2.2.2) fun g3 e k3 he=>hE g3 e _ (fun c o c1 c3 c4 x=>k3 _ _ c4 (k2.extBut _ _ c3 (k1.extBut _ _ c1 x))) he)
def kR(h:Heap)(zp ti to u1 u2 S:Addr)(i:Nat):Prop:=(i=0/\Nn h zp ti to .none/\∃p q,Lj h to p q)\/∃T b oT,fJ h zp ti to T b/\h.get? T=some oT/\(T≠zp/\T≠u1/\T≠u2)/\T≠S/\T≠to
theorem kR.keep{h h':Heap}{S:Addr}{i:Nat}(x:kR h zp ti to u1 u2 S i)(hk:∀b o,b≠S->h.get? b=some o->h'.get? b=some o)(h1:zp≠S)(h2:to≠S):kR h' zp ti to u1 u2 S i:=by
 rcases x with⟨e,hz,p,q,hp⟩|⟨T,b,oT,hz,hT,hn,hS,ho⟩
 .exact .inl ⟨e,hk _ _ h1 hz,p,q,hk _ _ h2 hp⟩
 .exact .inr ⟨T,b,oT,hk _ _ h1 hz,hk _ _ hS hT,hn,hS,ho⟩
theorem Fm{i:Nat}{S:Addr}{Q:Option a_->f_->Prop}(Z:ZA zp ti to u1 u2 f1 f2)(D1:MM prog w A.in1 u1 f1 n1 P1 St1)(D2:MM prog w A.in1 u2 f2 n2 P2 St2)(hst:kR s.heap zp ti to u1 u2 S i)(hi:Lj s.heap ti (.ref u1) (.ref u2))(s1:St1 i s.heap)(s2:St2 i s.heap)(l1:i<n1)(l2:i<n2)(hS:S<s.heap.objs.size)(hto:to<s.heap.objs.size)(hQ:∀x y h' tk,P1 i x->P2 i y->kR h' zp ti to u1 u2 S (i+1)->St1 (i+1) h'->St2 (i+1) h'->Lj h' s.heap.objs.size x y->h'.objs.size=s.heap.objs.size+1 ->(∀c o,c≠zp->c≠to->c≠u1->c≠u2->s.heap.get? c=some o->h'.get? c=some o)->Q (some (.ref s.heap.objs.size)) { s with heap:=h',toks:=tk }):C_ (H_ prog w) A (ND (.ref zp)) Q E s:=by
 have lt1:u1<s.heap.objs.size:=let⟨_,e⟩:=D1.live _ _ s1;o_ e;have lt2:u2<s.heap.objs.size:=let⟨_,e⟩:=D2.live _ _ s2;o_ e;rcases hst with⟨rfl,hz,p,q,hp⟩|⟨T,b,oT,hz,hT,hn,hTS,hTo⟩
 .refine AX Z D1 D2 hz hi hp s1 s2 l1 l2 fun x y h' tk b1 b2 b3 b4 b5 b6 b7 b8 b9=>hQ x y h' tk b1 b2 (.inr ⟨s.heap.objs.size,false,_,b3,b7,⟨?_,?_,?_⟩,?_,?_⟩) b5 b6 b7 b8 b9
  .exact KL (o_ hz)
  .exact KL lt1
  .exact KL lt2
  .exact KL hS
  .exact KL hto
 .have hTy:s.TypeIs (.ref zp) "zip" := ⟨_,hz,rfl⟩
  unfold ND;exact b_ (Ot (K6 (name:=Mj "__next__") hTy F.slot_zip_next (Lx F.slot_zip_next hTy F.entry_zip_next
   (Fk Z D1 D2 hz hT hn hi s1 s2 l1 l2 fun x y h' tk b1 b2 b3 b5 b6 b7 b8 b9=>u_ (hQ x y h' tk b1 b2 (.inr ⟨T,true,oT,b3,b9 T oT hn.1 hn.2.1 hn.2.2 hT,hn,hTS,hTo⟩) b5 b6 b7 b8 fun c o c1 _ c3 c4 e=>b9 c o c1 c3 c4 e)) (F.args_zip_next_1 _))))
theorem Fl{i:Nat}{S:Addr}{Q:Option a_->f_->Prop}(Z:ZA zp ti to u1 u2 f1 f2)(D1:MM prog w A.in1 u1 f1 n1 P1 St1)(D2:MM prog w A.in1 u2 f2 n2 P2 St2)(hst:kR s.heap zp ti to u1 u2 S i)(hi:Lj s.heap ti (.ref u1) (.ref u2))(s1:St1 i s.heap)(s2:St2 i s.heap)(hend:i=n1\/(i<n1/\i=n2))(hQ:∀h' tk,(∀c o,c≠zp->c≠to->c≠u1->c≠u2->s.heap.get? c=some o->h'.get? c=some o)->Q none { s with heap:=h',toks:=tk }):C_ (H_ prog w) A (ND (.ref zp)) Q E s:=by
 rcases hst with⟨rfl,hz,p,q,hp⟩|⟨T,b,oT,hz,hT,hn,hTS,hTo⟩
 .exact A5 Z D1 D2 hz hi hp s1 s2 hend hQ
 .have hTy:s.TypeIs (.ref zp) "zip" := ⟨_,hz,rfl⟩
  unfold ND;refine b_ (Ot (K6 (name:=Mj "__next__") hTy F.slot_zip_next (Lx F.slot_zip_next hTy F.entry_zip_next (E8 Z D1 D2 hz hT hn hi s1 s2 hend fun h' e tk hk he=>?_) (F.args_zip_next_1 _))));obtain⟨o,ho,hc⟩:=he;exact b_ (Qk (T := "StopIteration") (b:=true) ⟨o,ho,hc⟩ isSubtype_stop (u_ (hQ _ _ fun c o c1 _ c3 c4 e=>hk c o c1 c3 c4 e)))
structure ZG(P1 P2:Nat->a_->Prop)(lo:Addr)(h:Heap)(as:List Addr):Prop where
 rise:as.Pairwise (· < ·)
 above:∀a∈as,lo<a
 pairs:∀(j:Nat)(a:Addr),as[j]? = some a->∃x y,P1 j x/\P2 j y/\Lj h a x y
theorem Er{S:Addr}{n:Nat}{R:QJ->f_->Prop}(Z:ZA zp ti to u1 u2 f1 f2)(D1:MM prog w A.in1.in1 u1 f1 n1 P1 St1)(D2:MM prog w A.in1.in1 u2 f2 n2 P2 St2)(hS0:zp<S/\ti<S/\to<S/\u1<S/\u2<S)(hSf:S∉f1/\S∉f2)(hn:n=n1/\n<=n2)(hnl:n<=sizeLine)(res:a_){h₁:Heap}(hR:∀h' tk acc c as,(∀b o,b≠S->b≠zp->b≠to->b≠u1->b≠u2->h₁.get? b=some o->h'.get? b=some o)->h'.get? S=some { cls:=.type "list",dict:=none,data:=.seq acc c,slots:=#[] }->as.length=n->ZG P1 P2 S h' as ->acc.toList=as.map Value.ref->R (.ok (.ret res)) { s with heap:=h',toks:=tk }):∀(k i:Nat)(h:Heap)(tk c:Nat)(acc:Array a_)(as:List Addr),n-i=k->i<=n->kR h zp ti to u1 u2 S i->Lj h ti (.ref u1) (.ref u2)->St1 i h->St2 i h->(∀b o,b≠S->b≠zp->b≠to->b≠u1->b≠u2->h₁.get? b=some o->h.get? b=some o) ->h.get? S=some { cls:=.type "list",dict:=none,data:=.seq acc c,slots:=#[] }->acc.toList=as.map Value.ref->as.length=i->ZG P1 P2 S h as ->NN (H_ prog w) A (.builtin "list.extend.loop" ⟨[.ref S,.ref zp,res],[]⟩) R { s with heap:=h,toks:=tk }:=by
 have n1':zp≠S:=D_ hS0.1;have n2':ti≠S:=D_ hS0.2.1;have n3':to≠S:=D_ hS0.2.2.1;have n4':u1≠S:=D_ hS0.2.2.2.1;have n5':u2≠S:=D_ hS0.2.2.2.2;have off:∀{a:Addr},S<a->a≠S/\a≠zp/\a≠to/\a≠u1/\a≠u2:=fun{a} h=>⟨KL h,KL (Ni hS0.1 h),KL (Ni hS0.2.2.1 h),KL (Ni hS0.2.2.2.1 h),KL (Ni hS0.2.2.2.2 h)⟩
 intro k
 induction k with
|zero=>intro i h tk c acc as hk hi hst hti s1 s2 hkeep hS hacc hal hG;refine Qz N_ ?_;rw[Pl LI _];show C_ _ A.in1 (ND (.ref zp) >>= _) _ _ _;refine b_ (Fl (s:={ s with heap:=h,toks:=tk }) (A:=A.in1) Z D1 D2 hst hti s1 s2 (.inl (by omega)) fun h' tk' he=>?_);refine u_ (hR h' tk' acc c as (fun b o h0 h1 h2 h3 h4 e=>he b o h1 h2 h3 h4 (hkeep b o h0 h1 h2 h3 h4 e)) (he S _ n1'.symm n3'.symm n4'.symm n5'.symm hS) (by omega) ⟨hG.rise,hG.above,fun j a hj=>?_⟩ hacc);obtain⟨x,y,e1,e2,e3⟩:=hG.pairs j a hj;obtain⟨_,o1,o2,o3,o4⟩:=off (hG.above a (Lh hj));exact⟨x,y,e1,e2,he a _ o1 o2 o3 o4 e3⟩
|succ k ih=>
  intro i h tk c acc as hk hi hst hti s1 s2 hkeep hS hacc hal hG;have hsz:acc.size=i:=by rw[<-LZ,hacc,l_,hal]
  have hSl:S<h.objs.size:=o_ hS;refine Qz N_ ?_;rw[Pl LI _];show C_ _ A.in1 (ND (.ref zp) >>= _) _ _ _;refine b_ (Fm (s:={ s with heap:=h,toks:=tk }) (A:=A.in1) (S:=S) Z D1 D2 hst hti s1 s2 (by omega) (by omega) hSl (Ni hS0.2.2.1 hSl) fun x y h' tk' px py hst' s1' s2' ht hz hkp=>?_)
  dsimp only at ht hz hkp ⊢
  have hS':=hkp S _ n1'.symm n3'.symm n4'.symm n5'.symm hS;have up:∀b o,b≠S->h'.get? b=some o->(h'.update S (Lq (·.push (Value.ref h.objs.size)))).get? b=some o:=fun b o hb e=>(LD _ _ (Mh hb)).trans e;show C_ _ A.in1 (Qm S (·.push (Value.ref h.objs.size)) >>= _) _ _ _;refine b_ ?_;refine NH hS' rfl (u_ ⟨Pw LI _,ih (i+1) _ tk' _ (acc.push (Value.ref h.objs.size)) (as++[h.objs.size]) (by omega) (by omega) (hst'.keep up n1' n3') (up _ _ n2' (hkp ti _ Z.a1 Z.a8.1 Z.a8.2.1 Z.a8.2.2 hti))
   (D1.frame _ _ _ s1' fun b hb o e=>up b o (by rintro rfl;exact hSf.1 hb) e) (D2.frame _ _ _ s2' fun b hb o e=>up b o (by rintro rfl;exact hSf.2 hb) e)
   (fun b o h0 h1 h2 h3 h4 e=>up b o h0 (hkp b o h1 h2 h3 h4 (hkeep b o h0 h1 h2 h3 h4 e))) (LL _ hS' rfl) (by rw[Array.toList_push,hacc,KJ];rfl) (by rw[I_,hal];rfl) ⟨?_,?_,?_⟩⟩) (by rw[hsz];omega) (by show(acc.push (Value.ref h.objs.size)).size<=sizeLine+1;rw[Array.size_push,hsz];omega)
  .refine List.pairwise_append.mpr ⟨hG.rise,List.pairwise_singleton _ _,fun a ha b hb=>?_⟩;rw[t_.mp hb];obtain⟨j,hj⟩:=List.mem_iff_getElem?.mp ha;obtain⟨_,_,_,_,e⟩:=hG.pairs j a hj;exact o_ e
  .intro a ha;rcases KU.mp ha with ha|ha
   .exact hG.above a ha
   .rw[t_.mp ha];exact hSl
  .intro j b hj;rcases Of j as.length with h1|h1|h1
   .rw[J_ h1]at hj;obtain⟨x',y',e1,e2,e3⟩:=hG.pairs j b hj;obtain⟨o0,o1,o2,o3,o4⟩:=off (hG.above b (Lh hj));exact⟨x',y',e1,e2,up b _ o0 (hkp b _ o1 o2 o3 o4 e3)⟩
   .subst h1;have hb:h.objs.size=b:=by simpa using hj
    subst hb;exact⟨x,y,by rw[hal];exact px,by rw[hal];exact py,up _ _ (KL hSl) ht⟩
   .have hnone:(as++[h.objs.size])[j]? = none:=KH (by rw[I_,MI];omega);rw[hnone]at hj;cases hj
theorem IR:QM (.type "zip") "__len__" = pure none:=by rw[QA,Pa];kernel_rfl
theorem Jm:QM (.type "zip") "__length_hint__" = pure none:=by rw[QA,Pa];kernel_rfl
theorem Gh{r:Addr}{Q:Bool->f_->Prop}(hT:s.TypeIs (.ref r) "zip")(h:Q true s):C_ (H_ prog w) A (NS (.ref r)) Q E s:=by unfold NS;refine b_ (QB hT IR ?_);show C_ _ _ (specialOf (Value.ref r) (Mj "__length_hint__") >>= _) _ _ _;exact b_ (QB hT Jm (u_ h))
theorem Hw{S:Addr}{n:Nat}{R:QJ->f_->Prop}(Z:ZA zp ti to u1 u2 f1 f2)(D1:MM prog w A.in1.in1 u1 f1 n1 P1 St1)(D2:MM prog w A.in1.in1 u2 f2 n2 P2 St2)(hS0:zp<S/\ti<S/\to<S/\u1<S/\u2<S)(hSf:S∉f1/\S∉f2)(hn:n=n1/\n<=n2)(hnl:n<=sizeLine)(res:a_)(c₀:Nat)(hz:Nn s.heap zp ti to .none){p q:a_}(hp:Lj s.heap to p q)(hti:Lj s.heap ti (.ref u1) (.ref u2))(s1:St1 0 s.heap)(s2:St2 0 s.heap)(hS:s.heap.get? S=some { cls:=.type "list",data:=.seq #[] c₀ })(hR:∀h' tk acc c as,(∀b o,b≠S->b≠zp->b≠to->b≠u1->b≠u2->s.heap.get? b=some o->h'.get? b=some o)->h'.get? S=some { cls:=.type "list",dict:=none,data:=.seq acc c,slots:=#[] }->as.length=n->ZG P1 P2 S h' as ->acc.toList=as.map Value.ref->R (.ok (.ret res)) { s with heap:=h',toks:=tk }) :
  C_ (H_ prog w) A.in1 (L3 (.ref S) (.ref zp) res)
   (fun fin s'=>match fin with|.done f=>R (.ok f) s'|.again c'=>c'.quiet=true/\NN (H_ prog w) A c' R s') (fun e s'=>R (.error e) s') s:=by
 have n1':zp≠S:=D_ hS0.1;have key:∀(h:Heap)(c₁ tk:Nat),(∀b o,b≠S->s.heap.get? b=some o->h.get? b=some o)->h.get? S=some { cls:=.type "list",data:=.seq #[] c₁ } ->NN (H_ prog w) A (.builtin "list.extend.loop" ⟨[.ref S,.ref zp,res],[]⟩) R { s with heap:=h,toks:=tk }:=fun h c₁ tk hk hS₁=>
  Er (s:=s) (h₁:=s.heap) Z D1 D2 hS0 hSf hn hnl res hR n 0 h tk c₁ #[] [] (O0 _) (KN _) (.inl ⟨rfl,hk _ _ n1' hz,p,q,hk _ _ (D_ hS0.2.2.1) hp⟩) (hk _ _ (D_ hS0.2.1) hti)
   (D1.frame _ _ _ s1 fun b hb o e=>hk b o (by rintro rfl;exact hSf.1 hb) e) (D2.frame _ _ _ s2 fun b hb o e=>hk b o (by rintro rfl;exact hSf.2 hb) e) (fun b o hb _ _ _ _ e=>hk b o hb e) hS₁ rfl rfl ⟨List.Pairwise.nil,(fun _ ha=>nomatch ha),(fun j a hj=>by simp at hj)⟩
 have hTy:s.TypeIs (.ref zp) "zip" := ⟨_,hz,rfl⟩
 unfold L3;refine b_ (OO (T := "zip") hTy ?_);have h1:Ou (.ref S) (.ref zp)=false:=by simp[Ou,n1'.symm]
 have h2:(Value.type "zip" == Value.type "list")=false:=by decide
 have h3:(Value.type "zip" == Value.type "tuple")=false:=by decide
 simp only[h1,h2,h3,Rl,L8,if_false];refine b_ (OF hz ?_);refine b_ (Ll (Gh hTy ?_));refine wpAny_ite_split (fun _=>?_) (fun _=>u_ ⟨Pw LI _,key _ c₀ _ (fun b o _ e=>e) hS⟩);refine b_ (OV ?_);refine b_ ?_;show C_ _ _ (Qm S (·.push .none) >>= fun _=>Qm S (·.pop)) _ _ _;refine b_ (NH hS rfl ?_);have hS₂:=LL (Lq (·.push Value.none)) hS rfl;refine NH (hz:=by seq_fits) hS₂ rfl ?_;have hS₃:=LL (Lq (·.pop)) hS₂ rfl;refine u_ ⟨Pw LI _,key _ _ _ (fun b o hb e=>?_) hS₃⟩;exact(LD _ _ (Mh hb)).trans ((LD _ _ (Mh hb)).trans e)
theorem Ep{n:Nat}{Q:a_->f_->Prop}(Z:ZA zp ti to u1 u2 f1 f2)(D1:MM prog w A.in1.in1.in1 u1 f1 n1 P1 St1)(D2:MM prog w A.in1.in1.in1 u2 f2 n2 P2 St2)(hn:n=n1/\n<=n2)(hnl:n<=sizeLine)(hz:Nn s.heap zp ti to .none){p q:a_}(hp:Lj s.heap to p q)(hti:Lj s.heap ti (.ref u1) (.ref u2))(s1:St1 0 s.heap)(s2:St2 0 s.heap)(hf1:∀b∈f1,b<s.heap.objs.size)(hf2:∀b∈f2,b<s.heap.objs.size)(hQ:∀h' tk acc c as,(∀b o,b≠zp->b≠to->b≠u1->b≠u2->s.heap.get? b=some o->h'.get? b=some o)->h'.get? s.heap.objs.size=some { cls:=.type "list",dict:=none,data:=.seq acc c,slots:=#[] }->as.length=n->ZG P1 P2 s.heap.objs.size h' as ->acc.toList=as.map Value.ref->Q (.ref s.heap.objs.size) { s with heap:=h',toks:=tk }):C_ (H_ prog w) A (call (.type "list") [.ref zp]) Q E s:=by
 refine callType_codes (Q₁:=fun obj s₁=>obj=.ref s.heap.objs.size/\s₁={ s with heap:=s.heap.push { cls:=.type "list",data:=.seq #[] } }) PySem.F.called_list (PySem.F.typeCall_list_1 _) PySem.F.entry_list_init
  (code_list_new _ ⟨rfl,rfl⟩) fun obj s₁ h₁=>?_
 obtain⟨rfl,rfl⟩:=h₁;have hS:(s.heap.push { cls:=.type "list",data:=.seq #[] }).get? s.heap.objs.size=some { cls:=.type "list",data:=.seq #[] }:=y_ _ rfl;have pu:∀{b o},s.heap.get? b=some o->(s.heap.push { cls:=.type "list",data:=.seq #[] }).get? b=some o:=fun e=>e_ _ e;have lt1:u1<s.heap.objs.size:=let⟨_,e⟩:=D1.live _ _ s1;o_ e;have lt2:u2<s.heap.objs.size:=let⟨_,e⟩:=D2.live _ _ s2;o_ e;refine⟨⟨_,hS,rfl⟩,PySem.F.args_list_init_2 _ _,?_⟩;show C_ _ _ (do let old <-O1 (.ref s.heap.objs.size);Builtin.List.listUpdate (.ref s.heap.objs.size) (fun _=>#[]);letGo old.toList.reverse;L3 (.ref s.heap.objs.size) (.ref zp) .none) _ _ _;refine b_ ?_;unfold O1;refine b_ (Lp hS rfl (u_ ?_));show C_ _ _ (Qm s.heap.objs.size (fun _=>#[]) >>= fun _=>letGo (#[]:Array a_).toList.reverse >>= fun _=>L3 (.ref s.heap.objs.size) (.ref zp) .none) _ _ _;refine b_ (NH hS rfl ?_);have hS₂:=LL (Lq (fun _=>(#[]:Array a_))) hS rfl;have oth:∀b o,b≠s.heap.objs.size->(s.heap.push { cls:=.type "list",data:=.seq #[] }).get? b=some o->((s.heap.push { cls:=.type "list",data:=.seq #[] }).update s.heap.objs.size (Lq (fun _=>(#[]:Array a_)))).get? b=some o:=fun b o hb e=>(LD _ _ (Mh hb)).trans e;have up:∀{b o},s.heap.get? b=some o->((s.heap.push { cls:=.type "list",data:=.seq #[] }).update s.heap.objs.size (Lq (fun _=>(#[]:Array a_)))).get? b=some o:=fun e=>oth _ _ (D_ (o_ e)) (pu e);refine b_ (Pj ?_);refine Hw (A:=A.in1) (S:=s.heap.objs.size) Z D1 D2 ⟨o_ hz,o_ hti,o_ hp,lt1,lt2⟩ ⟨fun x=>K_ _ (hf1 _ x),fun x=>K_ _ (hf2 _ x)⟩ hn hnl .none _ (up hz) (up hp) (up hti) (D1.frame _ _ _ s1 fun b _ o e=>up e) (D2.frame _ _ _ s2 fun b _ o e=>up e) hS₂ fun h' tk acc c as hk hS' hl hG hacc=>?_;exact⟨rfl,hQ h' tk acc c as (fun b o h1 h2 h3 h4 e=>hk b o (D_ (o_ e)) h1 h2 h3 h4 (up e)) hS' hl hG hacc⟩
end
theorem Ey{b k:Nat}(h:b<k):b≠k+4/\b≠k+3/\b≠k/\b≠k+1:=by omega
def dw(H:Hp):List Addr->List (V×V)->Hp
|a::as,p::ps=>dw (upd H a (.tup [p.1,p.2])) as ps
|_,_=>H
theorem mO:∀{as:List Addr}{ps:List (V×V)}{H:Hp}{b:Addr},b∉as->dw H as ps b=H b
|[],_,_,_,_=>by cases ‹List (V×V)› <;> rfl
|a::as,[],_,_,_=>rfl
|a::as,p::ps,H,b,h=>by show dw (upd H a _) as ps b=_;rw[mO fun z=>h (k_ _ z),bg fun z=>h (by rw[z];exact j_)]
theorem Em{as:List Addr}{ps:List (V×V)}{H:Hp}(hn:∀a∈as,H a=none){b:Addr}{u:HO}(e:H b=some u):dw H as ps b=some u:=by rw[mO fun z=>by rw[hn b z]at e;cases e];exact e
theorem xW:∀{as:List Addr}{ps:List (V×V)}{H:Hp}{b:Addr}{u:HO},as.Nodup->as.length=ps.length->b∈as->dw H as ps b=some u->∃(j:Nat)(p:V×V),as[j]? = some b/\ps[j]? = some p/\u=.tup [p.1,p.2]
|[],_,_,_,_,_,_,h,_=>nomatch h
|a::as,[],_,_,_,_,hl,_,_=>nomatch hl
|a::as,p::ps,H,b,u,hn,hl,hb,e=>by
  have hn':=KW.mp hn;have e:dw (upd H a (.tup [p.1,p.2])) as ps b=some u:=e;by_cases z:b=a
  .subst z;rw[mO hn'.1,bO]at e;cases e;exact⟨0,p,rfl,rfl,rfl⟩
  .obtain⟨j,q,h1,h2,h3⟩:=xW hn'.2 (RJ hl) ((z_.mp hb).resolve_left z) e;exact⟨j+1,q,h1,h2,h3⟩
theorem zU{K:W.Frag}:∀{as:List Addr}{xs ys:List V}{ds es:List D}{G:GH}{H:Hp},aC K G H->ba K G xs ds->ba K G ys es->as.length=xs.length->xs.length<=ys.length->(∀a∈as,H a=none)->as.Nodup ->∃G',Grow K G H G' (dw H as (xs.zip ys))/\ba K G' (as.map V.ref) (LR (fun a b=>D.tup [a,b]) ds es)
|[],[],ys,ds,es,G,H,gk,r1,r2,_,_,_,_=>by cases r1;exact⟨G,Grow.refl gk,.nil⟩
|a::as,x::xs,[],ds,es,G,H,gk,r1,r2,_,h,_,_=>absurd h (by simp)
|a::as,x::xs,y::ys,ds,es,G,H,gk,r1,r2,hl,hy,hn,nd=>by cases r1 with
 |@cons _ d _ ds a1 t1=>cases r2 with
 |@cons _ e _ es a2 t2=>have nd':=KW.mp nd;have w:=Grow.newF (d:=.tup [d,e]) gk (hn a j_) (.tup (.inl bO) (.cons a1 (.cons a2 .nil)):OB K G (upd H a (.tup [x,y])) a (.tup [d,e]));obtain⟨G',w',r'⟩:=zU w.ok (ba.mono t1 w.ge) (ba.mono t2 w.ge) (RJ hl) (Nat.le_of_succ_le_succ hy) (fun b hb=>by rw[bg fun z=>nd'.1 (by rw[<-z];exact hb)];exact hn b (k_ _ hb)) nd'.2;exact⟨G',w.trans w',.cons ((RG.ref dh).mono w'.ge) r'⟩
theorem Inv.more{X:Cx}{pz:List (Addr×Obj)}{σ:L2.St}{H H':Hp}{s:f_}{h':Heap}{t':Nat}(I:Inv X pz σ H s)(k:∀b u,s.heap.get? b=some u->h'.get? b=some u)(he:∀b u,H b=some u->H' b=some u)(hn:∀b u,H b=none->H' b=some u->s.heap.objs.size<=b/\bx X.prog X.w H' h' b u):Inv X pz σ H' { s with heap:=h',toks:=t' }:=by
 refine I.step (g':=s.gens) (d':=s.drawn) (ch:=[]) (fun b hb=>absurd hb (by simp)) (fun b ob _ _ _ e _=>k b ob e) (fun b ob _ _ _ e _=>⟨ob.slots,k b ob e⟩) (fun b ob _ e n=>?_) (fun b ob _ e=>⟨ob,k b ob e⟩) (fun b xs e=>he b _ e) (fun b ob u e=>he b _ e)
  (fun b ps e=>⟨#[],by rw[he b _ e];simp⟩) (fun m hm=>?_) (fun b u e=>?_) I.bare
 .cases q:H' b with
 |none=>rfl
 |some u=>exact absurd (hn b u n q).1 (Nat.not_le.mpr (o_ e))
 .obtain⟨ob,es,ep,ho,r⟩:=hm;exact⟨ob,es,ep,k _ ob ho,r⟩
 .cases q:H b with
 |some u'=>have:=he b u' q;rw[this]at e;cases e;exact(I.hok b u q).stay (fun c v _ q=>k c v q) (fun c q=>he c _ q) fun c xs q=>he c _ q
 |none=>exact(hn b u q e).2
def vN(K:W.Frag):V->V->Hp->VK->Prop:=fun x y H Q=>∃(a b:Addr)(xs ys:List V),x=.ref a/\y=.ref b/\aO K H a xs/\aO K H b ys/\xs.length<=ys.length /\∀(l:Addr)(as:List Addr),H l=none->as.Nodup->(∀a∈as,H a=none/\a≠l)->as.length=xs.length->Q (.ref l) (upd (dw H as (xs.zip ys)) l (.lst (as.map V.ref)))
section
variable{X:Cx}{g:GE}{m:List Md}{e1 e2:Expr}{fa fb:FE}{ta tb:TE}{pos p pos2 p2:Pos}
theorem FO(hc:X.calm=true)(hgl:Gl X "list")(hml:X.mg "list" = none)(hg:Gl X "zip")(hm:X.mg "zip" = none)(ha:PE X e1 ta)(hb:PE X e2 tb)(hs:m_ [e1,e2] X.env=(false,eval e1 X.env)::m_ [e2] X.env:=by rfl)(hs1:m_ [e2] X.env=(false,eval e2 X.env)::m_ [] X.env:=by rfl)(hpl:(backTo pos2 (m_ [e2] X.env)).any (·.1)=false:=by rfl)(hs2:m_ [.Call (.Name "zip" p2) [e1,e2] [] pos2] X.env=(false,eval (.Call (.Name "zip" p2) [e1,e2] [] pos2) X.env)::m_ [] X.env:=by rfl):PE X (.Call (.Name "list" p) [.Call (.Name "zip" p2) [e1,e2] [] pos2] [] pos) (fun σ H Q=>ta σ H fun x H1=>tb σ H1 fun y H2=>vN X.K x y H2 Q):=by intro pz s σ H Q I h;refine MB (jy I hgl hml rfl ?_ (by decide) (by decide));refine Lf ?_ hs2 rfl;rw[hs2];show C_ _ _ (Rw ((false,eval (.Call (.Name "zip" p2) [e1,e2] [] pos2) X.env)::backTo pos (m_ [] X.env))) _ _ s;refine PC ?_;refine MB (jy I hg hm boot_zip ?_ (by decide) (by decide));refine Lf (aH (gb ha (gb hb iU hs1) hs pos2 pz s σ H (fun vs H2=>match vs with|[x,y]=>vN X.K x y H2 Q|_=>False) I h) fun us s1 ⟨vs,H1,I1,r1,q1⟩=>?_) hs hpl;cases r1 with
|nil=>exact q1.elim
|@cons x u xs us rx rt=>cases rt with
|nil=>exact q1.elim
|@cons y u' xs' us' ry rt'=>cases rt' with
|cons _ _=>exact q1.elim
|nil=>
 obtain⟨a,b,xs,ys,rfl,rfl,z1,z2,hle,q⟩:=q1;cases rx;cases ry;have la:=ph (t:=false) I1 z1;have lb:=ph (t:=false) I1 z2;obtain⟨its1,rv1,pl1,hz1⟩:=I1.list z1;obtain⟨its2,rv2,pl2,hz2⟩:=I1.list z2;have k1:=rv1.length;have k2:=rv2.length;refine xV (t1:=false) (t2:=false) I1 z1 z2 fun h' hz hi ho o1 o2 kp=>?_;show C_ _ _ (Rw []) _ _ _;refine PU ?_;have hdl:=I1.ok.hd hc;refine Ep (s:={ s1 with heap:=h' }) (n:=its1.length) (xL la lb) (OW (A:=X.A.in1.in1.in1) hdl _ a (D_ la) its1.toArray) (OW (A:=X.A.in1.in1.in1) hdl _ b (D_ (Nk lb)) its2.toArray) ⟨by rw[n_],by rw[n_];omega⟩ (by omega) hz ho hi
  ⟨oG (t:=false) o1,pl1.isList.at fun o e=>kp _ o e⟩ ⟨oG (t:=false) o2,pl2.isList.at fun o e=>kp _ o e⟩ ?_ ?_ fun h2 tk acc c as hk hS hl hG hacc=>?_
 .intro b hb;rcases z_.mp hb with rfl|hb
  .exact o_ o1
  .rw[t_.mp hb];obtain⟨o,ho',_⟩:=pl1.isList;exact o_ (kp _ o ho')
 .intro b' hb;rcases z_.mp hb with rfl|hb
  .exact o_ o2
  .rw[t_.mp hb];obtain⟨o,ho',_⟩:=pl2.isList;exact o_ (kp _ o ho')
 .dsimp only at hk hS hG
  have big:s1.heap.objs.size<=h'.objs.size:=Nd (PH (Qh s1.heap.objs.size 4) (o_ hz));have fresh:∀x∈as,H1 x=none/\x≠h'.objs.size:=fun x hx=>⟨I1.hok.fresh (KF big (Nd (hG.above x hx))),KL (hG.above x hx)⟩
  have nd:as.Nodup:=hG.rise.imp fun h=>D_ h;have hS0:H1 h'.objs.size=none:=I1.hok.fresh big;have hz':as.length=(xs.zip ys).length:=by rw[O7];omega
  refine⟨.ref h'.objs.size,upd (dw H1 as (xs.zip ys)) h'.objs.size (.lst (as.map V.ref)),Inv.more (s:=s1) (h':=h2) (t':=tk) I1 (fun b u e=>?_) (fun b u e=>?_) (fun b u n e=>?_),rfl,q _ as hS0 nd fresh (by omega)⟩
  .obtain⟨n1,n2,n3,n4⟩:=Ey (o_ e);exact hk b u n1 n2 n3 n4 (kp b u e)
  .rw[bg (i3 e hS0)];exact Em (fun a ha=>(fresh a ha).1) e
  .by_cases hb:b=h'.objs.size
   .subst hb;rw[bO]at e;cases e;refine⟨big,by rw[l_];omega,acc.toList,c,?_,by rw[Nw];exact hS⟩;rw[hacc];have:∀l:List Addr,ak (l.map V.ref) (l.map Value.ref):=fun l=>by induction l with
    |nil=>exact .nil
    |cons a l ih=>exact .cons rfl ih
    exact this as
   .rw[bg hb]at e;by_cases hm':b∈as
    .obtain⟨j,pr,j1,j2,rfl⟩:=xW nd hz' hm' e;refine⟨KF big (Nd (hG.above b hm')),?_⟩;obtain⟨x,y,c1,c2,c3⟩:=hG.pairs j b j1;obtain⟨px,py⟩:=pr;obtain⟨j3,j4⟩:=Oa.mp j2;rw[List.getElem?_toArray]at c1 c2;obtain⟨u1,e1,e2⟩:=rv1.get j3;obtain⟨u2,e3,e4⟩:=rv2.get j4;rw[e1]at c1;cases c1;rw[e3]at c2;cases c2;exact y7 c3 e2 e4
    .rw[mO hm',n]at e;cases e
def qw:D->D->Option D
|.lst ds,.lst es=>if ds.length<=es.length then some (.lst (LR (fun a b=>D.tup [a,b]) ds es))else none
|_,_=>none
theorem B8{K:W.Frag}:Bz K (vN K) qw:=by intro G H v1 v2 d1 d2 d Q gk r1 r2 ed q;cases d1 with
|lst ds=>cases d2 with
 |lst es=>
   have ed:(if ds.length<=es.length then some (D.lst (LR (fun a b=>D.tup [a,b]) ds es))else none)=some d:=ed;by_cases hle:ds.length<=es.length
   .rw[if_pos hle]at ed;cases ed;obtain⟨a,xs,rfl,s1,r1⟩:=r1.lst gk;obtain⟨b,ys,rfl,s2,r2⟩:=r2.lst gk;have k1:=Paired.length r1;have k2:=Paired.length r2;refine⟨a,b,xs,ys,rfl,rfl,s1,s2,by omega,fun l as hl nd fr hlen=>?_⟩;obtain⟨G3,w3,r3⟩:=zU gk r1 r2 hlen (by omega) (fun a ha=>(fr a ha).1) nd;have hl3:dw H as (xs.zip ys) l=none:=by rw[mO fun z=>(fr l z).2 rfl];exact hl
    exact q l G3 _ (w3.trans (Grow.new w3.ok hl3 (.lst (as.map V.ref)))) hl ⟨w3.ok.isN hl3,.lst bO r3⟩
   .rw[if_neg hle]at ed;cases ed
 |_=>cases ed
|_=>cases ed
theorem C0(hc:X.calm=true)(hgl:Gl X "list")(hml:X.mg "list" = none)(hg:Gl X "zip")(hm:X.mg "zip" = none)(ha:SB X g m e1 fa)(hb:SB X g m e2 fb)(hs:m_ [e1,e2] X.env=(false,eval e1 X.env)::m_ [e2] X.env:=by rfl)(hs1:m_ [e2] X.env=(false,eval e2 X.env)::m_ [] X.env:=by rfl)(hpl:(backTo pos2 (m_ [e2] X.env)).any (·.1)=false:=by rfl)(hs2:m_ [.Call (.Name "zip" p2) [e1,e2] [] pos2] X.env=(false,eval (.Call (.Name "zip" p2) [e1,e2] [] pos2) X.env)::m_ [] X.env:=by rfl):SO X g m (.Call (.Name "list" p) [.Call (.Name "zip" p2) [e1,e2] [] pos2] [] pos) (f2 fa fb qw):=Dy B8 (FO hc hgl hml hg hm ha hb hs hs1 hpl hs2)
end
end DL
namespace DL
open PySem PySem.Spec PyProof.Rows L2
def dY(g:GE)(H:Hp)(fp:List Addr)(i:Nat)(p:Addr):GE:=⟨g.gh,fun b=>if b∈fp then H b else g.h0 b,fun j=>if j=i then some (some (V.ref p),none)else g.hd j⟩
theorem yN{g:GE}{H H':Hp}{fp:List Addr}{i:Nat}{p:Addr}(h:∀b∈fp,H' b=H b):dY g H' fp i p=dY g H fp i p:=by
 unfold dY;congr 1;funext b;by_cases hb:b∈fp
 .rw[if_pos hb,if_pos hb,h b hb]
 .rw[if_neg hb,if_neg hb]
def gx(K:W.Frag)(G:GH)(H:Hp)(b:Addr)(ds:List D):Prop:=∃xs,H b=some (.lst xs)/\ba K G xs ds
structure LRw(K:W.Frag)(G:GH)(H:Hp)(p:Addr)(as:List Addr)(w:List (List D)):Prop where
 out:H p=some (.lst (as.map V.ref))
 nd:(p::as).Nodup
 un:∀b∈p::as,G b=none
 rw:Paired (gx K G H) as w
theorem gx.mono{K:W.Frag}{G G':GH}{H H':Hp}{b:Addr}{ds:List D}(h:gx K G H b ds)(ge:aI G G')(he:H' b=H b):gx K G' H' b ds:=by obtain⟨xs,h1,h2⟩:=h;exact⟨xs,by rw[he];exact h1,h2.mono ge⟩
theorem y6{α β:Type}{F F':α->β->Prop}{l:List α}{r:List β}(h:Paired F l r)(f:∀a∈l,∀b,F a b->F' a b):Paired F' l r:=by induction h with
|nil=>exact .nil
|cons h _ ih=>exact .cons (f _ j_ _ h) (ih fun a ha=>f a (k_ _ ha))
theorem LRw.isS{K:W.Frag}{G:GH}{H:Hp}{p:Addr}{as:List Addr}{w:List (List D)}(h:LRw K G H p as w){b:Addr}(hb:b∈p::as):H b≠none:=by
 rcases z_.mp hb with rfl|hb
 .rw[h.out];simp
 .have:∀{as:List Addr}{w:List (List D)},Paired (gx K G H) as w->b∈as->H b≠none:=fun{as w} q hb=>by induction q with
  |nil=>cases hb
  |cons r _ ih=>
    rcases z_.mp hb with rfl|hb
    .obtain⟨xs,e,_⟩:=r;rw[e];simp
    .exact ih hb
  exact this h.rw hb
theorem LRw.mono{K:W.Frag}{G G':GH}{H H':Hp}{p:Addr}{as:List Addr}{w:List (List D)}(h:LRw K G H p as w)(ge:aI G G')(he:∀b∈p::as,H' b=H b)(un:∀b∈p::as,G' b=none):LRw K G' H' p as w:=⟨by rw[he p j_];exact h.out,h.nd,un,y6 h.rw fun b hb ds r=>r.mono ge (he b (k_ _ hb))⟩
def l9(X:Cx)(g:GE)(i:Nat)(m:List Md)(r:al)(w:List (List D))(G:GH)(st:L2.St)(H:Hp):Prop:=∃p as,LRw X.K G H p as w/\(∀b∈p::as,g.h0 b=none)/\SI X (dY g H (p::as) i p) m r G st H/\m[i]? = some .bw
section
variable{X:Cx}{g:GE}{i:Nat}{m m' m1:List Md}{r r':al}{w:List (List D)}{G G':GH}{σ σ':L2.St}{H H':Hp}
theorem Ik{p:Addr}{as:List Addr}(R:LRw X.K G H p as w)(h0:∀b∈p::as,g.h0 b=none)(si:SI X (dY g H (p::as) i p) m r G σ H)(le:aI G G')(si':SI X (dY g H (p::as) i p) m' r' G' σ' H')(hm:m'[i]? = some .bw):l9 X g i m' r' w G' σ' H':=by
 have he:∀b∈p::as,H' b=H b:=fun b hb=>by have hs:=R.isS hb;cases e:H b with
 |none=>exact absurd e hs
 |some o=>
   have:(dY g H (p::as) i p).h0 b=some o:=by show(if b∈p::as then H b else g.h0 b)=_;rw[if_pos hb];exact e
   rw[si'.old b o this]
 have un:∀b∈p::as,G' b=none:=fun b hb=>by
  have h:(dY g H (p::as) i p).h0 b≠none:=by show(if b∈p::as then H b else g.h0 b)≠_;rw[if_pos hb];exact R.isS hb
  have e1:=si'.gf b h;have e2:=si.gf b h;rw[e1,<-e2];exact R.un b hb
 exact⟨p,as,R.mono le he un,h0,by rw[yN he];exact si',hm⟩
abbrev Kq:=al->List (List D)->Option (al×List (List D))
variable{st:Stmt}{sts:List Stmt}{ro:Bool}{mb:List Md}{s1:FS}{f1 f2:Kq}{tg iter:Expr}{pos:Pos}
theorem EW{K:W.Frag}{H:Hp}:∀{as:List Addr}{w:List (List D)}{G:GH},aC K G H->Paired (gx K G H) as w->as.Nodup->(∀b∈as,G b=none)->∃G',aI G G'/\(∀b,b∉as->G' b=G b)/\aC K G' H/\Paired (fun b ds=>G' b=some (.lst ds)) as w:=by
 intro as
 induction as with
|nil=>intro w G gk h _ _;cases h;exact⟨G,aI.refl G,fun _ _=>rfl,gk,.nil⟩
|cons b as ih=>intro w G gk h nd un;cases h with
 |@cons _ ds _ w r t=>
   rw[List.nodup_cons]at nd;have hb:=un b j_;obtain⟨xs,e,rs⟩:=r;have g1:aC K (gset G b (.lst ds)) H:=gk.gset hb (.lst (.inl e) rs);obtain⟨G',l,o,g,q⟩:=ih g1 (y6 t fun c hc ds r=>r.mono (dZ hb) rfl) nd.2 fun c hc=>by rw[eT (by rintro rfl;exact nd.1 hc)];exact un c (k_ _ hc)
   refine⟨G',aI.trans (dZ hb) l,fun c hc=>?_,g,.cons (l _ _ dh) q⟩;rw[o c fun z=>hc (k_ _ z),eT (by rintro rfl;exact hc j_)]
theorem IB{G:GH}{as:List Addr}{w:List (List D)}{b:Addr}(hb:b∈as)(q:Paired (fun b ds=>G b=some (.lst ds)) as w):∃ds,G b=some (.lst ds):=by induction q with
|nil=>cases hb
|cons h _ ih=>
  rcases z_.mp hb with rfl|hb
  .exact⟨_,h⟩
  .exact ih hb
theorem yO{fp:List Addr}{p:Addr}{d0:D}(si:SI X (dY g H fp i p) m r G σ H)(hm:m[i]? = some .bw)(h0:∀b∈fp,g.h0 b=none)(hS:∀b∈fp,H b≠none)(hb:∀j,j≠i->m[j]?≠some .bw)(le:aI G G')(g2:aC X.K G' H)(out:∀b,b∉fp->G' b=G b)(hd:G' p=some d0):SI X g (m.set i .sh) (r.set i (some d0)) G' σ H:=by
 have hlt:i<m.length:=(c_.mp hm).1;have hst:σ[i]? = some (some (V.ref p)):=(si.lk i (some (V.ref p),none) (by show(if i=i then _ else _)=_;rw[if_pos rfl]) hm).1;have h0':∀b,b∉fp->(dY g H (fp) i p).h0 b=g.h0 b:=fun b hb=>by show(if b∈fp then H b else g.h0 b)=_;rw[if_neg hb]
 have h0i:∀b,b∈fp->(dY g H (fp) i p).h0 b≠none:=fun b hb=>by show(if b∈fp then H b else g.h0 b)≠_;rw[if_pos hb];exact hS b hb
 have nin:∀b,g.h0 b≠none->b∉fp:=fun b h z=>h (h0 b z);have mne:∀{j x},i≠j->(m.set i .sh)[j]? = some x->m[j]? = some x:=fun hij h=>by rw[g_ hij]at h;exact h
 refine⟨g2,fun a o e=>?_,fun a d e=>le a d (si.ge a d e),fun a h=>?_,by simpa using si.lm,by simpa using si.lr,fun j d h1 h2=>?_,fun j d h1 h2=>?_,fun j d h1 h2=>?_,fun j k a d e hjk h1 h2 m1 m2 z1 z2=>?_,fun j o hj hm'=>?_⟩
 .exact si.old a o (by rw[h0' a (nin a (by rw[e];simp))];exact e)
 .have hn:=nin a h;rw[out a hn];exact si.gf a (by rw[h0' a hn];exact h)
 .by_cases hij:i=j
  .subst hij;rw[p_ (by rw[si.lr,<-si.lm];exact hlt)]at h1;cases h1;exact⟨_,hst,.ref hd⟩
  .rw[g_ hij]at h1;obtain⟨v,y1,y2⟩:=si.sh j d h1 (mne hij h2);exact⟨v,y1,y2.mono le⟩
 .by_cases hij:i=j
  .subst hij;rw[p_ hlt]at h2;cases h2
  .rw[g_ hij]at h1;obtain⟨a,y1,y2,y3⟩:=si.ow j d h1 (mne hij h2);have hn:a∉fp:=fun z=>h0i a z y3;exact⟨a,y1,⟨by rw[out a hn];exact y2.un,y2.ob.mono le fun _ z=>z⟩,by rw[<-h0' a hn];exact y3⟩
 .by_cases hij:i=j
  .subst hij;rw[p_ hlt]at h2;cases h2
  .exact absurd (mne hij h2) (hb j (Mh hij))
 .have hij:i≠j:=by rintro rfl;rw[p_ hlt]at m1;cases m1
  have hik:i≠k:=by rintro rfl;rw[p_ hlt]at m2;cases m2
  rw[g_ hij]at h1;rw[g_ hik]at h2;exact si.dis j k a d e hjk h1 h2 (mne hij m1) (mne hik m2) z1 z2
 .by_cases hij:i=j
  .subst hij;rw[p_ hlt]at hm';cases hm'
  .exact absurd (mne hij hm') (hb j (Mh hij))
theorem l9.frz(s:l9 X g i m r w G σ H)(hb:∀j,j≠i->m[j]?≠some .bw):∃G',aI G G'/\(∀b d,G b=none->G' b=some d->∃ds,d=.lst ds)/\SI X g (m.set i .sh) (r.set i (some (.lst (w.map D.lst)))) G' σ H:=by
 obtain⟨p,as,R,h0,si,hm⟩:=s;have nd:=KW.mp R.nd;obtain⟨G1,l1,o1,g1,q1⟩:=EW si.gok R.rw nd.2 fun b hb=>R.un b (k_ _ hb);have hp1:G1 p=none:=by rw[o1 p nd.1];exact R.un p j_
 have rs:ba X.K G1 (as.map V.ref) (w.map D.lst):=by
  have:∀{as:List Addr}{w:List (List D)},Paired (fun b ds=>G1 b=some (.lst ds)) as w->ba X.K G1 (as.map V.ref) (w.map D.lst):=fun{as w} q=>by induction q with
  |nil=>exact .nil
  |cons h _ ih=>exact .cons (.ref h) ih
  exact this q1
 have g2:aC X.K (gset G1 p (.lst (w.map D.lst))) H:=g1.gset hp1 (.lst (.inl R.out) rs);have le:aI G (gset G1 p (.lst (w.map D.lst))):=aI.trans l1 (dZ hp1);have out:∀b,b∉p::as->gset G1 p (.lst (w.map D.lst)) b=G b:=fun b hb=>by rw[eT (by rintro rfl;exact hb j_),o1 b fun z=>hb (k_ _ z)]
 refine⟨_,le,fun b d hn e=>?_,yO si hm h0 (fun b hb=>R.isS hb) hb le g2 out dh⟩;by_cases hbp:b=p
 .subst hbp;rw[dh]at e;cases e;exact⟨_,rfl⟩
 .rw[eT hbp]at e;by_cases hba:b∈as
  .obtain⟨ds,e1⟩:=IB hba q1;rw[e1]at e;cases e;exact⟨_,rfl⟩
  .rw[o1 b hba,hn]at e;cases e
end
def RO(K:W.Frag)(H2:Hp)(p:Addr)(G:GH)(H:Hp)(ws:List V)(ds:List D):Prop:=Paired (fun v d=>∃b,v=V.ref b/\H2 b=none/\b≠p/\Own K G H b d) ws ds/\ws.Nodup
section
variable{K:W.Frag}{H2:Hp}{p:Addr}{G G':GH}{H H':Hp}{ws:List V}{ds:List D}
theorem RO.grow(h:RO K H2 p G H ws ds)(w:Grow K G H G' H'):RO K H2 p G' H' ws ds:=⟨Paired.mono (fun v d ⟨b,e,h1,h2,h3⟩=>⟨b,e,h1,h2,h3.mono w⟩) h.1,h.2⟩
theorem RO.upd{o:HO}(h:RO K H2 p G H ws ds):RO K H2 p G (L2.upd H p o) ws ds:=⟨Paired.mono (fun v d ⟨b,e,h1,h2,h3⟩=>⟨b,e,h1,h2,h3.un,h3.ob.mono (fun _ _ z=>z) fun _ z=>by rw[bg h2];exact z⟩) h.1,h.2⟩
end
section
variable{X:Cx}{g:GE}{i:Nat}{m m' m1:List Md}{r r':al}{w:List (List D)}{G G':GH}{σ σ':L2.St}{H H':Hp}
theorem SI.row{p:Addr}{as:List Addr}(R:LRw X.K G H p as w)(si:SI X (dY g H (p::as) i p) m r G σ H)(hm:m[i]? = some .bw)(hb:∀j,j≠i->m[j]?≠some .bw){b:Addr}(hbm:b∈p::as)(o:HO):SI X (dY g (upd H b o) (p::as) i p) m r G σ (upd H b o):=by
 have un:=R.un b hbm;have h0':∀c,c∉p::as->(dY g H (p::as) i p).h0 c=g.h0 c:=fun c hc=>by show(if c∈p::as then H c else g.h0 c)=_;rw[if_neg hc]
 have h0i:∀c,c∈p::as->(dY g H (p::as) i p).h0 c=H c:=fun c hc=>by show(if c∈p::as then H c else g.h0 c)=_;rw[if_pos hc]
 have k0':∀c,c∉p::as->(dY g (upd H b o) (p::as) i p).h0 c=g.h0 c:=fun c hc=>by show(if c∈p::as then _ else g.h0 c)=_;rw[if_neg hc]
 have k0i:∀c,c∈p::as->(dY g (upd H b o) (p::as) i p).h0 c=upd H b o c:=fun c hc=>by show(if c∈p::as then upd H b o c else g.h0 c)=_;rw[if_pos hc]
 refine⟨fun c d e=>?_,fun c u e=>?_,si.ge,fun c h=>?_,si.lm,si.lr,si.sh,fun j d h1 h2=>?_,fun j d h1 h2=>?_,si.dis,si.lk⟩
 .have hc:c≠b:=by rintro rfl;rw[un]at e;cases e
  exact(si.gok c d e).mono (fun _ _ z=>z) fun u z=>by rw[bg hc];exact z
 .by_cases hc:c∈p::as
  .rw[k0i c hc]at e;exact e
  .rw[k0' c hc]at e;have hcb:c≠b:=by rintro rfl;exact hc hbm
   rw[bg hcb];exact si.old c u (by rw[h0' c hc];exact e)
 .by_cases hc:c∈p::as
  .exact si.gf c (by rw[h0i c hc];exact R.isS hc)
  .rw[k0' c hc]at h;exact si.gf c (by rw[h0' c hc];exact h)
 .obtain⟨a,q1,q2,q3⟩:=si.ow j d h1 h2;have ha:a∉p::as:=fun z=>by rw[h0i a z]at q3;exact R.isS z q3
  have hab:a≠b:=by rintro rfl;exact ha hbm
  rw[h0' a ha]at q3;exact⟨a,q1,⟨q2.un,q2.ob.mono (fun _ _ z=>z) fun u z=>by rw[bg hab];exact z⟩,by rw[k0' a ha];exact q3⟩
 .by_cases hj:j=i
  .subst hj;have:=(si.lk j (some (V.ref p),none) (by show(if j=j then _ else _)=_;rw[if_pos rfl]) hm).2 d h1;cases this
  .exact absurd h2 (hb j hj)
variable{ro:Bool}{mb:List Md}{pos p1 p2 p3 p4 p5 p6 p7 p8 p9 p10 p11:Pos}{x xa xb:Str}{jc:Nat}
end
def lessA(H:Hp)(a:Addr):Hp:=fun b=>if b=a then none else H b
theorem Ho{H:Hp}{a b:Addr}(h:b≠a):lessA H a b=H b:=if_neg h
theorem Grow.lessA{K:W.Frag}{G G' G2:GH}{H H' H2:Hp}{a:Addr}(w:Grow K G H G' H')(ha:H a=none)(w2:Grow K G' (lessA H' a) G2 H2):Grow K G H G2 H2:=by
 have ne:∀b,H b≠none->b≠a:=fun b h=>by rintro rfl;exact h ha
 have he:∀b o,H b=some o->DL.lessA H' a b=some o:=fun b o e=>by rw[Ho (ne b (by rw[e];simp))];exact w.he b o e
 refine⟨w2.ok,fun b o e=>w2.he b o (he b o e),fun b d e=>w2.ge b d (w.ge b d e),fun b h=>?_⟩;rw[w2.gf b ?_,w.gf b h];cases e:H b with
|none=>exact absurd e h
|some o=>rw[he b o e];simp
def Kl(K:W.Frag)(ro:Bool)(ms:List Md)(F:List D->Res D):Sp:=fun vs H Q _=>∃G us a ds d,aC K G H/\vs=us++[V.ref a]/\ArgsOk K G H ms us ds/\Own K G H a d /\fin (F (ds++[d])) (fun d'=>∀v G' H',Grow K G (lessA H a) G' H'->RV ro K (lessA H a) G' H' v d'->Q v H') fun _=>False
section
variable{K:W.Frag}{G:GH}{H:Hp}
theorem ArgsOk.snoc{ms:List Md}{us:List V}{ds:List D}{v:V}{d:D}(h:ArgsOk K G H ms us ds)(r:RB K G H v d):ArgsOk K G H (ms++[.bw]) (us++[v]) (ds++[d]):=by induction h with
|nil=>exact .bw r .nil
|sh h _ ih=>exact .sh h ih
|bw h _ ih=>exact .bw h ih
end
section
variable{P:E_}{w:Kz}{K:W.Frag}{mg:Str->Option a_}{base:Heap}
structure CalleeV(P:E_)(w:Kz)(K:W.Frag)(mg:Str->Option a_)(base:Heap)(x:Str)(ps:List Str)(k:Nat)(ro:Bool)(ms:List Md)(F:List D->Res D):Prop where
 ex:∃f fd,mg x=some (.ref f)/\W.keepIn K (.ref f)=true/\gE K fd ps []/\FnOk P w K mg base bQ k f fd ps (Kl K ro ms F)
end
theorem LRw.grow{K:W.Frag}{G G':GH}{H H':Hp}{p:Addr}{as:List Addr}{w:List (List D)}(R:LRw K G H p as w)(wg:Grow K G H G' H'):LRw K G' H' p as w:=by
 refine R.mono wg.ge (fun b hb=>?_) fun b hb=>by rw[wg.gf b (R.isS hb)];exact R.un b hb
 cases e:H b with
|none=>exact absurd e (R.isS hb)
|some o=>rw[wg.he b o e]
inductive Cln:D->Prop where
 |non:Cln .non
 |bl (b:Bool):Cln (.bl b)
 |int (i:Int):Cln (.int i)
 |str (x:Str):Cln (.str x)
 |tup {ds:List D}:(∀d∈ds,Cln d)->Cln (.tup ds)
theorem Cln.lst{ds:List D}(h:Cln (.lst ds)):False:=nomatch h
theorem Cln.dic{ds:List (au×D)}(h:Cln (.dic ds)):False:=nomatch h
theorem Cln.get{ds:List D}(h:Cln (.tup ds)):∀d∈ds,Cln d:=by cases h with
|tup h=>exact h
section
variable{X:Cx}{g:GE}{i:Nat}{m m' m1:List Md}{r r':al}{w:List (List D)}{G G':GH}{σ σ':L2.St}{H H':Hp}{e:Expr}{f:FE}{st:Stmt}{pos p1 p2 p3 p4 p5 p6 p7 p8 p9 p10:Pos}{x xa xb y:Str}
theorem l9.after(s:l9 X g i m r w G σ H)(wg:Grow X.K G H G' H'):l9 X g i m r w G' σ H':=by obtain⟨p,as,R,h0,si,hm⟩:=s;exact Ik R h0 si wg.ge (si.grow wg) hm
end
structure TL(K:W.Frag)(G:GH)(H:Hp)(p a:Addr)(d1:D)(ds:List D):Prop where
 tp:∃x xs,H p=some (.tup [x,.ref a])/\RG K G x d1/\H a=some (.lst xs)/\ba K G xs ds
 un:∀b∈[p,a],G b=none
 ne:p≠a
theorem TL.isS{K:W.Frag}{G:GH}{H:Hp}{p a:Addr}{d1:D}{ds:List D}(t:TL K G H p a d1 ds):∀b∈[p,a],H b≠none:=fun b hb=>by
 obtain⟨x,xs,h1,_,h2,_⟩:=t.tp;rcases z_.mp hb with rfl|hb
 .rw[h1];simp
 .rw[t_.mp hb,h2];simp
theorem TL.grow{K:W.Frag}{G G':GH}{H H':Hp}{p a:Addr}{d1:D}{ds:List D}(t:TL K G H p a d1 ds)(w:Grow K G H G' H'):TL K G' H' p a d1 ds:=by obtain⟨x,xs,h1,h2,h3,h4⟩:=t.tp;exact⟨⟨x,xs,w.he _ _ h1,h2.mono w.ge,w.he _ _ h3,h4.mono w.ge⟩,fun b hb=>by rw[w.gf b (t.isS b hb)];exact t.un b hb,t.ne⟩
def RW(K:W.Frag)(H0:Hp)(G:GH)(H:Hp)(v:V)(d:D):Prop:=∃p a d1 ds,v=.ref p/\d=.tup [d1,.lst ds]/\(∀b∈[p,a],H0 b=none)/\TL K G H p a d1 ds
def Kk(K:W.Frag)(ms:List Md)(F:List D->Res D):Sp:=fun vs H Q _=>∃G ds,aC K G H/\ArgsOk K G H ms vs ds/\fin (F ds) (fun d=>∀v G' H',Grow K G H G' H'->RW K H G' H' v d->Q v H') fun _=>False
abbrev FW:=al->Res D
section
variable{P:E_}{w:Kz}{K:W.Frag}{mg:Str->Option a_}{base:Heap}
structure CalleeW(P:E_)(w:Kz)(K:W.Frag)(mg:Str->Option a_)(base:Heap)(x:Str)(ps:List Str)(k:Nat)(ms:List Md)(F:List D->Res D):Prop where
 ex:∃f fd,mg x=some (.ref f)/\W.keepIn K (.ref f)=true/\gE K fd ps []/\FnOk P w K mg base bQ k f fd ps (Kk K ms F)
end
section
variable{X:Cx}{g:GE}{ro:Bool}{i:Nat}{m m' m1 mb ms:List Md}{r r':al}{G G':GH}{σ σ':L2.St}{H H':Hp}{e c:Expr}{es:List Expr}{q:FQ}{st:Stmt}{sts sts1:List Stmt}{fl:al->Res (List D)}{F:List D->Res D}{k:Nat}{ps:List Str}{pos p1 p2 p3 p4 apos cpos:Pos}{x y:Str}{d1:D}{ds:List D}
def nO(X:Cx)(g:GE)(i:Nat)(m:List Md)(r:al)(d1:D)(ds:List D)(G:GH)(st:L2.St)(H:Hp):Prop:=∃p a,TL X.K G H p a d1 ds/\(∀b∈[p,a],g.h0 b=none)/\SI X (dY g H [p,a] i p) m r G st H/\m[i]? = some .bw
theorem nO.after(s:nO X g i m r d1 ds G σ H)(wg:Grow X.K G H G' H'):nO X g i m r d1 ds G' σ H':=by
 obtain⟨p,a,t,h0,si,hm⟩:=s;refine⟨p,a,t.grow wg,h0,?_,hm⟩;rw[yN (H:=H) fun b hb=>?_]
 .exact si.grow wg
 .cases e:H b with
 |none=>exact absurd e (t.isS b hb)
 |some o=>rw[wg.he b o e]
theorem nO.frz(s:nO X g i m r d1 ds G σ H)(hb:∀j,j≠i->m[j]?≠some .bw):∃G',aI G G'/\(∀b d,G b=none->G' b=some d->¬ Cln d)/\SI X g (m.set i .sh) (r.set i (some (.tup [d1,.lst ds]))) G' σ H:=by
 obtain⟨p,a,t,h0,si,hm⟩:=s;obtain⟨x,xs,h1,h2,h3,h4⟩:=t.tp;have ua:=t.un a (k_ _ j_);have up:=t.un p j_;have g1:aC X.K (gset G a (.lst ds)) H:=si.gok.gset ua (.lst (.inl h3) h4);have up1:gset G a (.lst ds) p=none:=by rw[eT t.ne];exact up
 have g2:aC X.K (gset (gset G a (.lst ds)) p (.tup [d1,.lst ds])) H:=g1.gset up1 (.tup (.inl h1) (.cons (h2.mono (dZ ua)) (.cons (.ref dh) .nil)));refine⟨_,aI.trans (dZ ua) (dZ up1),fun b d hn e hc=>?_,yO si hm h0 t.isS hb (aI.trans (dZ ua) (dZ up1)) g2 (fun b hb=>?_) dh⟩
 .by_cases hbp:b=p
  .subst hbp;rw[dh]at e;cases e;exact(hc.get _ (k_ _ j_)).lst
  .rw[eT hbp]at e;by_cases hba:b=a
   .subst hba;rw[dh]at e;cases e;exact hc.lst
   .rw[eT hba,hn]at e;cases e
 .rw[eT (by rintro rfl;exact hb j_),eT (by rintro rfl;exact hb (k_ _ j_))]
abbrev F3:=al->D->List D->Option al
end
end DL
section
namespace DL
section
open PySem PyProof.Rows PySem.W PySem.Calls
variable{prog:E_}{w:Kz}{A:KM}{E:a_->f_->Prop}{s:f_}{l:Addr}{vs:List a_}{ns:List Int}
end
open PySem PySem.Spec PyProof.Rows L2
end DL
end
section
namespace DL
section
open PySem PyProof.Rows
variable{prog:E_}{w:Kz}{A:KM}{R:QJ->f_->Prop}{I S:Addr}{fp wr:List Addr}{n:Nat}{P:Nat->a_->Prop}{St:Nat->Heap->Prop}{TP:Heap->Prop}{bt:Nat->Nat->Bool}
def oq(wr:List Addr)(S:Addr)(h h':Heap):Prop:=∀b o,b∉wr->b≠S->h.get? b=some o->h'.get? b=some o
theorem oq.trans{h h1 h2:Heap}(a:oq wr S h h1)(b:oq wr S h1 h2):oq wr S h h2:=fun c o hc hs e=>b c o hc hs (a c o hc hs e)
end
end DL
end
namespace DL
open PySem PySem.Spec PyProof.Rows L2
end DL
namespace DL
open PySem PySem.Spec PyProof.Rows L2 PySem.W PySem.Calls
def Kj(K:W.Frag)(ro:Bool)(ms:List Md)(F:List D->Res D):Sp:=fun vs H Q E=>∃G ds,aC K G H/\ArgsOk K G H ms vs ds /\fin (F ds) (fun d=>∀v G' H',Grow K G H G' H'->RV ro K H G' H' v d->Q v H') fun x=>∀C od nm fs G' H',x=xD nm fs->XN K nm C->XF G' od fs->Grow K G H G' H'->E (.ref C) od H'
section
variable{P:E_}{w:Kz}{K:W.Frag}{mg:Str->Option a_}{base:Heap}
structure CalleeX(P:E_)(w:Kz)(K:W.Frag)(mg:Str->Option a_)(base:Heap)(x:Str)(ps:List Str)(ds:List a_)(k:Nat)(ro:Bool)(ms:List Md)(F:List D->Res D):Prop where
 ex:∃f fd,mg x=some (.ref f)/\W.keepIn K (.ref f)=true/\gE K fd ps ds/\FnOk P w K mg base (Kr P w) k f fd ps (Kj K ro ms F)
end
def XO(K:W.Frag)(C:Addr)(bm:List a_):Prop:=∃N nm q bs hdct sn sub ab col dd k0 k1 k2 k3 k5 newId,K.lookup C=some (excClassObj nm q C N bs bm hdct sn sub ab col dd k0 k1 k2 k3 k5 newId)
abbrev _root_.L2.Cx.held(X:Cx)(v:a_):Cx:={ X with A:=X.A.mark (some v),calm:=false,xe:=fun _ _=>False }
section
variable{X:Cx}{pz:List (Addr×Obj)}{σ:L2.St}{H H':Hp}{s s':f_}{a C:Addr}{od:Option Addr}
theorem Inv.held(I:Inv X pz σ H s)(v:a_):Inv (X.held v) pz σ H s:=⟨⟨I.ok.mod,I.ok.kind,I.ok.glob,I.ok.blt,I.ok.above,I.ok.inj,I.ok.has,I.ok.cab,(fun h=>nomatch h),I.ok.frames,I.ok.stk,I.ok.exf,I.ok.bs,I.ok.bsz,I.ok.noex,I.ok.exfs,I.ok.funs,I.ok.frf⟩,I.os,I.bare,I.base,I.loc,I.cell,I.free,I.freeC,I.pin,I.hok,I.len⟩
end
abbrev _root_.L2.Cx.tr(X:Cx)(ps:List (Addr×Obj))(E:a_->f_->Prop):Cx:={ X with pn:=ps,xe:=E }
section
variable{X:Cx}{pz pins':List (Addr×Obj)}{σ:L2.St}{H:Hp}{s:f_}{E:a_->f_->Prop}
theorem Inv.tr(I:Inv X pz σ H s)(E:a_->f_->Prop):Inv (X.tr (X.pn++pz) E) [] σ H s:=⟨⟨I.ok.mod,I.ok.kind,I.ok.glob,I.ok.blt,I.ok.above,I.ok.inj,I.ok.has,I.ok.cab,I.ok.hd,I.ok.frames,I.ok.stk,I.ok.exf,I.ok.bs,I.ok.bsz,I.ok.noex,I.ok.exfs,I.ok.funs,I.ok.frf⟩,I.os,I.bare,I.base,I.loc,I.cell,I.free,I.freeC,fun p hp=>I.pin p (by rw[KA]at hp;exact hp),I.hok,I.len⟩
theorem Inv.untr(I:Inv (X.tr (X.pn++pz) E) pins' σ H s):Inv X pz σ H s:=⟨⟨I.ok.mod,I.ok.kind,I.ok.glob,I.ok.blt,I.ok.above,I.ok.inj,I.ok.has,I.ok.cab,I.ok.hd,I.ok.frames,I.ok.stk,I.ok.exf,I.ok.bs,I.ok.bsz,I.ok.noex,I.ok.exfs,I.ok.funs,I.ok.frf⟩,I.os,I.bare,I.base,I.loc,I.cell,I.free,I.freeC,fun p hp=>I.pin p (Lv _ hp),I.hok,I.len⟩
theorem SP.untr{D:Ends}{f:Flow}(h:SP (X.tr (X.pn++pz) E) [] D f s):SP X pz D f s:=by cases f with
|next=>obtain⟨σ',H',I,q⟩:=h;exact⟨σ',H',Inv.untr I,q⟩
|brk=>obtain⟨σ',H',I,q⟩:=h;exact⟨σ',H',Inv.untr I,q⟩
|cont=>obtain⟨σ',H',I,q⟩:=h;exact⟨σ',H',Inv.untr I,q⟩
|ret u=>obtain⟨v,σ',H',I,r,q⟩:=h;exact⟨v,σ',H',Inv.untr I,r,q⟩
end
structure XA(K:W.Frag)(C:Addr)(bm:List a_):Prop where
 ob:XO K C bm
 be:bm.contains (Value.type "BaseException")=true
 bo:bm.contains (Value.type "object")=true
 ga:findIn K (.ref C) "__getattribute__" = some (some (.builtin "BaseException.__getattribute__"))
 gn:findIn K (.ref C) "__getattr__" = some none
 gc:findIn K (.ref C) "__class__" = some (some (.builtin "object.__class__"))
 gg:specialIn K (.builtin "object.__class__") "__get__" = some (some (.builtin "getset_descriptor.__get__"))
 gt:takesIn K (.builtin "object.__class__")=some true
structure IsxOk(K:W.Frag)(c:a_)(tab:Str->Option Bool):Prop where
 no:kitOne K (.type "NoneType") c=some false
 ex:∀nm b C,tab nm=some b->XN K nm C->∃bm,XA K C bm/\kitOne K (.ref C) c=some b
section
variable{X:Cx}{g:GE}{m:List Md}{e:Expr}{f:FE}{pos p p2:Pos}
theorem RB.exc{K:W.Frag}{G:GH}{H:Hp}{v:V}{k:Str}{nm:Str}{ds:List (Str×D)}(gk:aC K G H)(h:RB K G H v (.obj 0 ((k,.str nm)::ds))):∃a C od,v=.ref a/\H a=some (.ext (Bv a C od))/\XN K nm C:=by
 rcases h with h|⟨a,rfl,h⟩
 .cases h with
 |scl s=>cases s
 |ref e=>cases gk _ _ e with
  |exc r n f=>exact⟨_,_,_,rfl,r,n⟩
 |kc k=>cases k
 .cases h.ob
end
theorem XN.uniq{K:W.Frag}{nm:Str}{C c:Addr}(h:XN K nm C)(k:(K.all fun e=>match e.2.data with|.cls cd=>cd.name != nm || e.1==c|_=>true)=true):C=c:=by
 obtain⟨o,cd,h1,h2,h3⟩:=h;have hm:(C,o)∈(K:List (Addr×Obj)):=by
  have key:∀l:List (Addr×Obj),l.lookup C=some o->(C,o)∈l:=by
   intro l
   induction l with
  |nil=>intro h;cases h
  |cons q l ih=>
    intro h;rw[List.lookup]at h;split at h
    .rename_i hb;have:=Mg hb;cases h;rw[this];exact j_
    .exact k_ _ (ih h)
  exact key K h1
 have:=List.all_eq_true.mp k _ hm;simp only[h2]at this;rw[h3]at this;simpa using this
def uS(K:W.Frag)(nm:Str)(c:Addr):Bool:=K.all fun e=>match e.2.data with
|.cls cd=>cd.name != nm || e.1==c
|_=>true
structure CF(K:W.Frag)(nm:Str)(c:Addr)(bm:List a_):Prop where
 xa:XA K c bm
 xn:XN K nm c
 un:uS K nm c=true
theorem CF.eq{K:W.Frag}{nm:Str}{c C:Addr}{bm:List a_}(f:CF K nm c bm)(h:XN K nm C):C=c:=XN.uniq h f.un
end DL
namespace DL
open PySem PySem.Spec PyProof.Rows L2 PySem.W PySem.Calls PySem.Builtin PySem.Builtin.Str
end DL
section
namespace L2
open PySem PySem.Spec PyProof.Rows
theorem dO{sc:MO}{x:Str}(h:(match sc.names.lookup x with|some .local=>true|some .cell=>true|_=>false)=true):im sc x:=by
 revert h;unfold im;split <;> intro h
 .exact .inl (by assumption)
 .exact .inr (by assumption)
 .cases h
theorem cu{N P:List Str}{sc:MO}(h:(decide (sc.kind=.function) && ! sc.isCoroutine && ! sc.isGenerator&&decide N.Nodup&&decide (N.take P.length=P)&&(P.all fun x=>match sc.names.lookup x with|some .local=>true|some .cell=>true|_=>false)&&sc.names.all fun y=>decide (y.2≠.free))=true:=by decide+kernel):FnScope N P sc:=by simp only[Kt,decide_eq_true_eq,P7,LO]at h;obtain⟨⟨⟨⟨⟨⟨a,b⟩,c⟩,d⟩,e⟩,f⟩,k⟩:=h;exact⟨a,b,c,d,e,fun x hx=>dO (f x hx),k⟩
end L2
namespace DL
open PySem PySem.Spec PyProof.Rows L2
section
variable{X:Cx}{g:GE}{m mb ms:List Md}{e a b:Expr}{es:List Expr}{f fa fb:FE}{x:Str}{p pos pos':Pos}{ro:Bool}{fl:al->Res (List D)}{k:Nat}{ps:List Str}{F:List D->Res D}
theorem bE(h:SE X g m e f):SB X g m e f:=SE.toB h
theorem iB{i:Int}{j:Nat}:SB X g m (.Constant (.int i) j pos) fun _=>.ok (.int i):=bE qM
theorem xB(hu:X.A.units+1<Mq)(ha:SB X g m a fa)(hb:SB X g m b fb)(hs:rL b:=by intro _ _;rfl):SB X g m (.Subscript a b pos) (f2 fa fb aW):=bE (dF hu ha hb hs)
theorem cb(i:Nat)(hN:X.N.Nodup)(he:SE X g m e f)(hi:X.N[i]? = some x:=by rfl)(hx:im X.env.scope x:=by exact dO rfl)(hs:Ox e (some (.Name x pos')) pos.line X.env=pure false:=by rfl)(hf:X.fn x=true\/X.env.scope.names.lookup x=some .local:=by first|exact .inl rfl|exact .inr rfl|assumption):SS X g ro mb m (.Assign [.Name x pos'] e pos) (ao m i f) (m.set i .sh):=BK i hN hi hx he hs hf
theorem bi(i:Nat)(hN:X.N.Nodup)(hi:X.N[i]? = some x:=by rfl)(hx:im X.env.scope x:=by exact dO rfl)(hf:X.fn x=true\/X.env.scope.names.lookup x=some .local:=by first|exact .inl rfl|exact .inr rfl|assumption):SG X g m (.Name x pos) (aE i) (m.set i .sh):=De i hN hi hx hf
theorem aM(c:Callee X.prog X.w X.K X.mg X.base x ps [] k false ms F)(ha:gR X g m (e::es) ms fl)(hr:Room k X.A:=by exact Room.mono ‹_› (by decide))(hg:Gl X x:=by rfl)(hdb:(x==("__debug__" : Str))=false:=by decide)(he:m_ (e::es) X.env=(false,eval e X.env)::m_ es X.env:=by rfl)(hpl:(backTo pos (m_ es X.env)).any (·.1)=false:=by rfl):SE X g m (.Call (.Name x p) (e::es) [] pos) (az fl [] F):=B3 (dds:=[]) c hr ha (by simp) hg .nil .nil hdb he hpl
end
theorem cQ{P:E_}{w:Kz}{K:W.Frag}{mg:Str->Option a_}{base:Heap}{x:Str}{st:Stmt}{N ps:List Str}{k:Nat}{ro:Bool}{ms:List Md}{fs:FS}{m':List Md}(A:DefAt K mg x st)(S:FnScope N ps (aw st))(hbody:∀(f:Addr)(cdv:a_)(A:KM)(outer:List Env)(s:f_)(H:Hp)(g:GE)(E:XK),Room k (A.deeper (Np x (aw st) s.heap.objs.size f cdv))->(A.deeper (Np x (aw st) s.heap.objs.size f cdv)).units+1<Mq ->fH (aS bQ P w K mg base N x (aw st) f cdv A outer s H E).nox g ro [] (iV N.length ms) (en st) fs m')(hms:ms.length=ps.length:=by rfl)(hb:∀(kV doc pm:a_)(an:Option Addr)(cdv ct:a_)(us:List a_),us.length=ps.length->Pd (W.fnOf x x (gJ st) (en st) (aw st) .none kV doc pm an cdv ct) ⟨us,[]⟩=pure (ps.zip us):=by intro _ _ _ _ _ _ us hl;rcases us with _|⟨_,_|⟨_,_|⟨_,_|⟨_,_|⟨_,_|⟨_,_⟩⟩⟩⟩⟩⟩ <;> first|(exfalso;revert hl;simp;done)|kernel_rfl):Callee P w K mg base x ps [] (k+1) ro ms fun ds=>aD ro (fs (bh N.length ds)):=CV A S hms hb fun f cdv A outer s H g E hr=>hbody f cdv A outer s H g E hr (jV hr)
end DL
end
section
namespace Rg
theorem iW{α:Type}[DecidableEq α]:∀{l m:List α},l.Nodup->(∀x∈l,x∈m)->l.length<=m.length
|[],_,_,_=>KN _
|a::l,m,hn,hs=>by
  have hn':=KW.mp hn;have h1:=iW (l:=l) (m:=m.erase a) hn'.2 fun x hx=>by
   have hxa:x≠a:=by rintro rfl;exact hn'.1 hx
   exact(Ny hxa).mpr (hs x (k_ _ hx))
  have ha:a∈m:=hs a j_;rw[Mp ha]at h1;have:=MC ha;simp only[L5];omega
theorem sA{α:Type}(p:α->Bool)(l:List α):(l.filter p).length+(l.filter fun x=>! p x).length=l.length:=by induction l with
|nil=>rfl
|cons a l ih=>simp only[K7];cases p a <;> simp <;> omega
theorem kl{α:Type}{p:α->Bool}{l:List α}(h:l.Nodup):(l.filter p).Nodup:=List.Pairwise.filter p h
structure S where
 line:List Nat
 things:List Nat
section
variable(W:Nat->List Nat)(O:Nat->Option Nat)
def best(row things:List Nat):Nat:=(row.find? fun x=>decide (x∈things)).getD 0
def bj(s:S)(h:Nat):Nat:=best (W h) s.things
def pt(s:S)(x:Nat):Nat:=(s.line.find? fun h=>decide (O h=some x)).getD (s.line.headD 0)
def nxt(s:S)(h:Nat):Nat:=pt O s (bj W s h)
def minus(s:S)(C:List Nat):S:=⟨s.line.filter fun h=>decide (h∉C),s.things.filter fun x=>decide (x∉C.map (bj W s))⟩
def it{α:Type}(f:α->α):Nat->α->α
|0,x=>x
|n+1,x=>it f n (f x)
theorem c8{α:Type}(f:α->α):∀(a b:Nat)(x:α),it f (a+b) x=it f b (it f a x)
|0,b,x=>by rw[OZ];rfl
|a+1,b,x=>by rw[PM];exact c8 f a b (f x)
theorem dJ{α:Type}(f:α->α)(n:Nat)(x:α):it f (n+1) x=f (it f n x):=c8 f n 1 x
theorem mD{α:Type}(f:α->α){p:Nat}{x:α}(h:it f p x=x):∀k,it f (p*k) x=x
|0=>rfl
|k+1=>by rw[Nat.mul_succ,c8,mD f h k,h]
structure Ok(s:S):Prop where
 nl:s.line.Nodup
 nt:s.things.Nodup
 le:s.line.length<=s.things.length
 row:∀h∈s.line,∀x∈s.things,x∈W h
 inj:∀h k x,O h=some x->O k=some x->h=k
 own:∀h∈s.line,∀x,O h=some x->x∈s.things
structure Cyc(s:S)(C:List Nat):Prop where
 sub:∀h∈C,h∈s.line
 cl:∀h∈C,nxt W O s h∈C
 per:∀h∈C,∃k,it (nxt W O s) (k+1) h=h
variable{W O}
theorem FX{row things:List Nat}(h:∃x∈row,x∈things):best row things∈things:=by unfold best;cases e:row.find? fun x=>decide (x∈things)with
|none=>obtain⟨x,h1,h2⟩:=h;have:=KO.mp e x h1;simp[h2]at this
|some x=>have:=MF e;simpa using this
theorem sj{row things t':List Nat}(hs:∀x∈t',x∈things)(hb:best row things∈t')(hr:best row things∈row):best row t'=best row things:=by unfold best at *;cases e:row.find? fun x=>decide (x∈things)with
|none=>rw[e]at hb hr;have:=KO.mp e _ hr;simp only[decide_eq_true_eq]at this;exact absurd (hs _ hb) this
|some x=>
  rw[e]at hb;simp only[My]at hb ⊢;obtain⟨hx,as,bs,rfl,h2⟩:=List.find?_eq_some_iff_append.mp e;rw[P8];have:as.find? (fun y=>decide (y∈t'))=none:=KO.mpr fun y hy=>by have:=h2 y hy;simp only[P7,decide_eq_false_iff_not]at this;simp only[decide_eq_true_eq];exact fun z=>this (hs y z)
  rw[this];simp[KB,hb]
theorem FZ{row things:List Nat}(h:∃x∈row,x∈things):best row things∈row:=by unfold best;cases e:row.find? fun x=>decide (x∈things)with
|none=>obtain⟨x,h1,h2⟩:=h;have:=KO.mp e x h1;simp[h2]at this
|some x=>exact Mc e
variable{s:S}
theorem Ok.some_thing(k:Ok W O s){h:Nat}(hh:h∈s.line):∃x∈W h,x∈s.things:=by have h1:=MC hh;have h2:0<s.things.length:=F_ h1 k.le;obtain⟨x,hx⟩:=List.exists_mem_of_length_pos h2;exact⟨x,k.row h hh x hx,hx⟩
theorem Ok.tgt_mem(k:Ok W O s){h:Nat}(hh:h∈s.line):bj W s h∈s.things:=FX (k.some_thing hh)
theorem Ok.tgt_row(k:Ok W O s){h:Nat}(hh:h∈s.line):bj W s h∈W h:=FZ (k.some_thing hh)
theorem xt{x:Nat}(h:s.line≠[]):pt O s x∈s.line:=by unfold pt;cases e:s.line.find? fun h=>decide (O h=some x)with
|none=>cases q:s.line with
 |nil=>exact absurd q h
 |cons a l=>simp[List.headD]
|some y=>exact Mc e
theorem j8(k:Ok W O s){h x:Nat}(hh:h∈s.line)(ho:O h=some x):pt O s x=h:=by unfold pt;cases e:s.line.find? fun h=>decide (O h=some x)with
|none=>have:=KO.mp e h hh;simp[ho]at this
|some y=>have:=MF e;simp only[decide_eq_true_eq]at this;exact k.inj y h x this ho
theorem mL{h:Nat}(hl:s.line≠[]):nxt W O s h∈s.line:=xt hl
theorem Cyc.it_mem{C:List Nat}(c:Cyc W O s C){h:Nat}(hh:h∈C):∀n,it (nxt W O s) n h∈C:=by
 intro n
 induction n generalizing h with
|zero=>exact hh
|succ n ih=>exact ih (c.cl h hh)
theorem FR{α:Type}{f:α->α}{x y:α}{a b:Nat}(hx:it f (a+1) x=x)(hy:it f (b+1) y=y)(e:f x=f y):x=y:=by
 have h1:=mD f hx (b+1);have h2:=mD f hy (a+1);rw[Nat.mul_comm]at h2;have h3:(a+1)*(b+1)=1+(a*b+a+b):=by rw[Nat.add_mul,Nat.mul_add];omega
 rw[h3,c8]at h1 h2;have e1:it f 1 x=it f 1 y:=e;rw[e1]at h1;rw[<-h1,h2]
theorem Cyc.out{C E:List Nat}(c:Cyc W O s C)(e:Cyc W O s E){h:Nat}(hc:h∈C)(he:h∉E):nxt W O s h∉E:=by intro z;obtain⟨k,hk⟩:=c.per h hc;exact he (by rw[<-hk];exact e.it_mem z k)
theorem Fc{C E:List Nat}(c:Cyc W O s C)(e:Cyc W O s E){h k:Nat}(hc:h∈C)(he:k∈E)(q:bj W s h=bj W s k):h=k:=by obtain⟨a,ha⟩:=c.per h hc;obtain⟨b,hb⟩:=e.per k he;exact FR ha hb (by unfold nxt;rw[q])
theorem mW(k:Ok W O s){C E:List Nat}(c:Cyc W O s C)(e:Cyc W O s E){h:Nat}(he:h∈E)(hc:h∉C):bj W (minus W s C) h=bj W s h:=by have hl:=e.sub h he;refine sj (fun x hx=>(w_.mp hx).1) ?_ (k.tgt_row hl);refine w_.mpr ⟨k.tgt_mem hl,?_⟩;simp only[decide_eq_true_eq];intro z;obtain⟨h',h1,h2⟩:=r_.mp z;have:=Fc c e h1 he h2;rw[this]at h1;exact hc h1
theorem pC{p:Nat->Bool}:∀{l:List Nat}{a:Nat},l.headD 0=a->l≠[]->p a=true->(l.filter p).headD 0=a
|[],_,_,h,_=>absurd rfl h
|b::l,a,e,_,hp=>by have:b=a:=e;subst this;rw[K7,if_pos hp];rfl
theorem zC(k:Ok W O s){C E:List Nat}(c:Cyc W O s C)(e:Cyc W O s E){h:Nat}(he:h∈E)(hc:h∉C):nxt W O (minus W s C) h=nxt W O s h:=by unfold nxt;rw[mW k c e he hc];have hl:=e.sub h he;have hne:s.line≠[]:=KP hl;have ho:pt O s (bj W s h)∉C:=e.out c he hc;have hm:pt O s (bj W s h)∈s.line:=xt hne;unfold pt at *;show((s.line.filter fun h=>decide (h∉C)).find? _).getD ((s.line.filter fun h=>decide (h∉C)).headD 0)=_;cases q:s.line.find? fun k=>decide (O k=some (bj W s h))with
|none=>rw[q]at ho;simp only[Mu]at ho ⊢;have:(s.line.filter fun h=>decide (h∉C)).find? (fun k=>decide (O k=some (bj W s h)))=none:=KO.mpr fun y hy=>KO.mp q y (w_.mp hy).1;rw[this];exact pC rfl hne (by simpa using ho)
|some y=>rw[q]at ho;simp only[My]at ho ⊢;have hy:=MF q;simp only[decide_eq_true_eq]at hy;have hyl:=Mc q;cases q2:(s.line.filter fun h=>decide (h∉C)).find? (fun k=>decide (O k=some (bj W s h)))with
 |none=>have:=KO.mp q2 y (w_.mpr ⟨hyl,by simpa using ho⟩);simp[hy]at this
 |some z=>have hz:=MF q2;simp only[decide_eq_true_eq]at hz;exact k.inj z y _ hz hy
theorem mK(k:Ok W O s){C:List Nat}(c:Cyc W O s C):Ok W O (minus W s C) where
 nl:=kl k.nl
 nt:=kl k.nt
 le:=by
  have h1:=sA (fun h=>decide (h∉C)) s.line;have h2:=sA (fun x=>decide (x∉C.map (bj W s))) s.things;have h3:(s.things.filter fun x=>! decide (x∉C.map (bj W s))).length<=((s.line.filter fun h=>! decide (h∉C)).map (bj W s)).length:=by refine iW (kl k.nt) fun x hx=>?_;obtain⟨_,hx⟩:=w_.mp hx;simp only[decide_not,Bool.not_not,decide_eq_true_eq]at hx;obtain⟨h,h1,h2⟩:=r_.mp hx;exact r_.mpr ⟨h,w_.mpr ⟨c.sub h h1,by simpa using h1⟩,h2⟩
  rw[l_]at h3;have:=k.le;show(s.line.filter _).length<=(s.things.filter _).length;omega
 row:=fun h hh x hx=>k.row h (w_.mp hh).1 x (w_.mp hx).1
 inj:=k.inj
 own:=fun h hh x hx=>by obtain⟨h1,h2⟩:=w_.mp hh;simp only[decide_eq_true_eq]at h2;refine w_.mpr ⟨k.own h h1 x hx,?_⟩;simp only[decide_eq_true_eq];intro z;obtain⟨b,b1,b2⟩:=r_.mp z;have:=c.cl b b1;unfold nxt at this;rw[b2,j8 k h1 hx]at this;exact h2 this
def less(E C:List Nat):List Nat:=E.filter fun h=>decide (h∉C)
theorem g6{E C:List Nat}{h:Nat}:h∈less E C↔h∈E/\h∉C:=by simp[less,w_]
theorem yV(k:Ok W O s){C E:List Nat}(c:Cyc W O s C)(e:Cyc W O s E):Cyc W O (minus W s C) (less E C):=by
 have stay:∀n h,h∈less E C->it (nxt W O (minus W s C)) n h=it (nxt W O s) n h:=by
  intro n
  induction n with
 |zero=>intro h _;rfl
 |succ n ih=>intro h hh;obtain⟨h1,h2⟩:=g6.mp hh;show it _ n (nxt W O (minus W s C) h)=it _ n (nxt W O s h);rw[zC k c e h1 h2];exact ih _ (g6.mpr ⟨e.cl h h1,e.out c h1 h2⟩)
 refine⟨fun h hh=>?_,fun h hh=>?_,fun h hh=>?_⟩
 .obtain⟨h1,h2⟩:=g6.mp hh;exact w_.mpr ⟨e.sub h h1,by simpa using h2⟩
 .obtain⟨h1,h2⟩:=g6.mp hh;rw[zC k c e h1 h2];exact g6.mpr ⟨e.cl h h1,e.out c h1 h2⟩
 .obtain⟨h1,h2⟩:=g6.mp hh;obtain⟨n,hn⟩:=e.per h h1;exact⟨n,by rw[stay _ _ hh];exact hn⟩
theorem iC{p q:Nat->Bool}{l:List Nat}(h:∀x∈l,p x=q x):l.filter p=l.filter q:=by induction l with
|nil=>rfl
|cons a l ih=>rw[K7,K7,h a j_,ih fun x hx=>h x (k_ _ hx)]
theorem Az(k:Ok W O s){C E:List Nat}(c:Cyc W O s C)(e:Cyc W O s E):minus W (minus W s C) (less E C)=minus W s (C++E):=by
 have h1:(minus W (minus W s C) (less E C)).line=(minus W s (C++E)).line:=by show((s.line.filter _).filter _)=s.line.filter _;rw[N6];refine iC fun x _=>?_;by_cases hc:x∈C <;> by_cases he:x∈E <;> simp[g6,hc,he]
 have h2:(minus W (minus W s C) (less E C)).things=(minus W s (C++E)).things:=by
  show((s.things.filter _).filter _)=s.things.filter _;rw[N6];refine iC fun x _=>?_;have key:x∈(less E C).map (bj W (minus W s C))↔∃h,h∈E/\h∉C/\bj W s h=x:=by
   rw[r_];constructor
   .rintro⟨h,hh,q⟩
    obtain⟨a,b⟩:=g6.mp hh;exact⟨h,a,b,by rw[<-q,mW k c e a b]⟩
   .rintro⟨h,a,b,q⟩
    exact⟨h,g6.mpr ⟨a,b⟩,by rw[mW k c e a b];exact q⟩
  have key2:x∈(C++E).map (bj W s)↔x∈C.map (bj W s)\/x∈(less E C).map (bj W (minus W s C)):=by
   rw[key,KJ,KU];constructor
   .rintro(z|z)
    .exact .inl z
    .obtain⟨h,a,b⟩:=r_.mp z;by_cases hc:h∈C
     .exact .inl (r_.mpr ⟨h,hc,b⟩)
     .exact .inr ⟨h,a,hc,b⟩
   .rintro(z|⟨h,a,_,b⟩)
    .exact .inl z
    .exact .inr (r_.mpr ⟨h,a,b⟩)
  rw[Kv];simp only[Kt,decide_eq_true_eq];rw[key2];constructor
  .rintro⟨a,b⟩ (z|z)
   .exact b z
   .exact a z
  .intro z;exact⟨fun q=>z (.inr q),fun q=>z (.inl q)⟩
 cases e1:minus W (minus W s C) (less E C);cases e2:minus W s (C++E);rw[e1,e2]at h1 h2;simp only at h1 h2;rw[h1,h2]
theorem IT(k:Ok W O s){C E:List Nat}(c:Cyc W O s C)(e:Cyc W O s E):minus W (minus W s C) (less E C)=minus W (minus W s E) (less C E):=by
 rw[Az k c e,Az k e c];unfold minus;congr 1
 .exact iC fun x _=>by rw[Kv];simp[and_comm]
 .refine iC fun x _=>?_;rw[Kv];simp only[decide_eq_true_eq,KJ,KU];constructor <;> intro z q <;> exact z q.symm
inductive TTC(W:Nat->List Nat)(O:Nat->Option Nat)(a:Nat->Nat):S->Prop where
 |nil {s:S}:s.line=[]->TTC W O a s
 |step {s:S} (C:List Nat):Cyc W O s C->(∀h∈C,a h=bj W s h)->TTC W O a (minus W s C)->TTC W O a s
theorem rS{a:Nat->Nat}(t:TTC W O a s):∀(k:Ok W O s){E:List Nat},Cyc W O s E->TTC W O a (minus W s E)/\∀h∈E,a h=bj W s h:=by induction t with
|nil h0=>intro k E e;refine⟨.nil (by unfold minus;rw[h0];rfl),fun h hh=>?_⟩;have:=e.sub h hh;rw[h0]at this;cases this
|step C c ha t ih=>
  intro k E e;obtain⟨h1,h2⟩:=ih (mK k c) (yV k c e);refine⟨.step (less C E) (yV k e c) (fun h hh=>?_) (by rw[<-IT k c e];exact h1),fun h hh=>?_⟩
  .obtain⟨z1,z2⟩:=g6.mp hh;rw[mW k e c z1 z2];exact ha h z1
  .by_cases hc:h∈C
   .exact ha h hc
   .rw[h2 h (g6.mpr ⟨hh,hc⟩),mW k c e hh hc]
end
end Rg
end
section
namespace Rg
section
variable{W:Nat->List Nat}{O:Nat->Option Nat}{s:S}{a:Nat->Nat}
theorem rn{f:Nat->Nat}{l:List Nat}(hcl:∀h∈l,f h∈l){x:Nat}(hx:x∈l):∃i j,i<j/\j<=l.length/\it f i x=it f j x:=by
 have mem:∀i,it f i x∈l:=by
  intro i
  induction i with
 |zero=>exact hx
 |succ i ih=>rw[dJ];exact hcl _ ih
 by_cases hn:((h_ (l.length+1)).map fun i=>it f i x).Nodup
 .have:=iW hn (m:=l) fun y hy=>by obtain⟨i,_,rfl⟩:=r_.mp hy;exact mem i
  simp at this;omega
 .apply MZ;intro h;apply hn;rw[N7]at *;rw[Og];refine Rn (R:=fun i j=>i<j) (fun hi hj hij e=>?_) List.pairwise_lt_range;exact h ⟨_,_,hij,by have:=s_.mp hj;omega,e⟩
theorem qu{P:Nat->Prop}:(∃n,P n)->∃n,P n/\∀k,k<n->¬ P k:=by
 rintro⟨n,hn⟩
 induction n using Nat.strongRecOn with
|_ n ih=>
  by_cases h:∃k,k<n/\P k
  .obtain⟨k,h1,h2⟩:=h;exact ih k h1 h2
  .exact⟨n,hn,fun k hk hp=>h ⟨k,hk,hp⟩⟩
theorem yl{α:Type}(f:α->α)(a b:Nat)(x:α):it f a (it f b x)=it f b (it f a x):=by rw[<-c8,<-c8,RK]
theorem At{f:Nat->Nat}{l:List Nat}(hcl:∀h∈l,f h∈l)(hne:l≠[]):∃z p,z∈l/\0<p/\p<=l.length/\it f p z=z/\∀i,0<i->i<p->z<it f i z:=by
 have mem:∀x∈l,∀i,it f i x∈l:=by
  intro x hx i
  induction i with
 |zero=>exact hx
 |succ i ih=>rw[dJ];exact hcl _ ih
 obtain⟨x,hx⟩:=LJ l hne;obtain⟨i,j,hij,_,e⟩:=rn hcl hx;obtain⟨z,⟨hz,k,hk⟩,hmin⟩:=qu (P:=fun z=>z∈l/\∃k,it f (k+1) z=z) ⟨it f i x,mem x hx i,j-i-1,by rw[<-c8,show i+(j-i-1+1)=j by omega];exact e.symm⟩;obtain⟨p,hp,hpm⟩:=qu (P:=fun p=>it f (p+1) z=z) ⟨k,hk⟩;have ge:∀i,z<=it f i z:=fun i=>by have:=hmin (it f i z);apply MZ;intro h;exact this (by omega) ⟨mem z hz i,p,by rw[yl,hp]⟩
 have ne:∀i,0<i->i<p+1->it f i z≠z:=fun i h1 h2 q=>hpm (i-1) (by omega) (by rw[show i-1+1=i by omega];exact q);refine⟨z,p+1,hz,Nat.succ_pos _,?_,hp,fun i h1 h2=>by have:=ge i;have:=ne i h1 h2;omega⟩;obtain⟨i,j,hij,hj,e⟩:=rn hcl hz;apply MZ;intro h;have:it f (p+1-j+i) z=z:=by
  have h1:it f (p+1-j) (it f j z)=z:=by rw[<-c8,show j+(p+1-j)=p+1 by omega];exact hp
  rw[<-e,<-c8]at h1;rw[RK];exact h1
 exact ne _ (by omega) (by omega) this
def d8(f:Nat->Nat)(n first:Nat):Nat->List Nat->Nat->Option (List Nat)
|0,_,_=>none
|k+1,ring,hand=>if first<hand/\ring.length<n then d8 f n first k (ring++[hand]) (f hand)else if hand=first then some ring else none
def cf(f:Nat->Nat)(n first:Nat):Option (List Nat):=d8 f n first (n+1) [first] (f first)
def aX(f:Nat->Nat)(x n:Nat):List Nat:=(h_ n).map fun i=>it f i x
theorem o6(f:Nat->Nat)(x n:Nat):aX f x (n+1)=aX f x n++[it f n x]:=by unfold aX;rw[O6,KJ];rfl
theorem jE(f:Nat->Nat)(x n:Nat):(aX f x n).length=n:=by simp[aX]
theorem II{f:Nat->Nat}{n first:Nat}:∀{k i:Nat}{r:List Nat},d8 f n first k (aX f first i) (it f i first)=some r->∃j,i<=j/\r=aX f first j/\it f j first=first:=by
 intro k
 induction k with
|zero=>intro i r h;cases h
|succ k ih=>
  intro i r h;unfold d8 at h;split at h
  .rw[<-o6,<-dJ f]at h;obtain⟨j,h1,h2⟩:=ih h;exact⟨j,by omega,h2⟩
  .split at h
   .rename_i e;cases h;exact⟨i,q_ _,rfl,e⟩
   .cases h
theorem AY{f:Nat->Nat}{n first:Nat}{r:List Nat}(h:cf f n first=some r):∃j,0<j/\r=aX f first j/\it f j first=first:=by
 have h':d8 f n first (n+1) (aX f first 1) (it f 1 first)=some r:=h
 obtain⟨j,h1,h2⟩:=II h';exact⟨j,by omega,h2⟩
theorem Jh{f:Nat->Nat}{n z p:Nat}(hp:p<=n)(he:it f p z=z)(hg:∀i,0<i->i<p->z<it f i z):∀{k i:Nat},0<i->i<=p->p<k+i->d8 f n z k (aX f z i) (it f i z)=some (aX f z p):=by
 intro k
 induction k with
|zero=>intro i h1 h2 h3;omega
|succ k ih=>
  intro i h1 h2 h3;unfold d8;by_cases hi:i=p
  .subst hi;rw[if_neg (by rw[he];omega),if_pos he]
  .rw[if_pos ⟨hg i h1 (by omega),by rw[jE];omega⟩,<-o6,<-dJ f];exact ih (by omega) (by omega) (by omega)
theorem tU{f:Nat->Nat}{n z p:Nat}(h0:0<p)(hp:p<=n)(he:it f p z=z)(hg:∀i,0<i->i<p->z<it f i z):cf f n z=some (aX f z p):=by show d8 f n z (n+1) (aX f z 1) (it f 1 z)=_;exact Jh hp he hg (by omega) h0 (by omega)
def d7(W:Nat->List Nat)(O:Nat->Option Nat)(s:S):List (List Nat):=s.line.filterMap fun h=>cf (nxt W O s) s.line.length h
theorem yD{C:List Nat}(hC:∀h,h∈C->∃r∈d7 W O s,h∈r)(hC':∀r∈d7 W O s,∀h∈r,h∈C):Cyc W O s C:=by
 have one:∀r∈d7 W O s,∃x j,x∈s.line/\0<j/\r=aX (nxt W O s) x j/\it (nxt W O s) j x=x:=fun r hr=>by obtain⟨x,h1,h2⟩:=KY.mp hr;obtain⟨j,h3,h4,h5⟩:=AY h2;exact⟨x,j,h1,h3,h4,h5⟩
 have hm:∀x∈s.line,∀i,it (nxt W O s) i x∈s.line:=by
  intro x hx i
  induction i with
 |zero=>exact hx
 |succ i ih=>rw[dJ];exact mL (KP hx)
 refine⟨fun h hh=>?_,fun h hh=>?_,fun h hh=>?_⟩
 .obtain⟨r,hr,h1⟩:=hC h hh;obtain⟨x,j,hx,hj,rfl,he⟩:=one r hr;obtain⟨i,_,rfl⟩:=r_.mp h1;exact hm x hx i
 .obtain⟨r,hr,h1⟩:=hC h hh;obtain⟨x,j,hx,hj,rfl,he⟩:=one r hr;obtain⟨i,hi,rfl⟩:=r_.mp h1;have hi:=s_.mp hi;refine hC' _ hr _ ?_;rw[<-dJ (nxt W O s)];by_cases q:i+1=j
  .rw[q,he];exact r_.mpr ⟨0,s_.mpr hj,rfl⟩
  .exact r_.mpr ⟨i+1,s_.mpr (by omega),rfl⟩
 .obtain⟨r,hr,h1⟩:=hC h hh;obtain⟨x,j,hx,hj,rfl,he⟩:=one r hr;obtain⟨i,hi,rfl⟩:=r_.mp h1;exact⟨j-1,by rw[show j-1+1=j by omega,yl,he]⟩
theorem IZ(hne:s.line≠[]):d7 W O s≠[]:=by obtain⟨z,p,h1,h2,h3,h4,h5⟩:=At (f:=nxt W O s) (l:=s.line) (fun h hh=>mL hne) hne;exact KP (KY.mpr ⟨z,h1,tU h2 h3 h4 h5⟩)
def dR(W:Nat->List Nat)(O:Nat->Option Nat)(s:S):List Nat:=(d7 W O s).flatten
theorem yM:Cyc W O s (dR W O s):=yD (fun h hh=>KS.mp hh) (fun r hr h hh=>KS.mpr ⟨r,hr,hh⟩)
theorem rT{f:Nat->Nat}{n x:Nat}{r:List Nat}(h:cf f n x=some r):r≠[]:=by obtain⟨j,h1,rfl,_⟩:=AY h;intro z;have:=jE f x j;rw[z]at this;simp at this;omega
theorem Dg(hne:s.line≠[]):dR W O s≠[]:=by have h:=IZ (W:=W) (O:=O) hne;cases q:d7 W O s with
|nil=>exact absurd q h
|cons r t=>
  have hr:r∈d7 W O s:=by rw[q];exact j_
  obtain⟨x,_,h2⟩:=KY.mp hr;unfold dR;rw[q,LG];intro z;exact rT h2 (List.append_eq_nil_iff.mp z).1
end
end Rg
end
section
namespace Rg
section
variable{W W':Nat->List Nat}{O:Nat->Option Nat}{s:S}{a b:Nat->Nat}
theorem yK{l:List Nat}{h:Nat}(hn:l.Nodup):l.erase h=l.filter fun x=>decide (x≠h):=by induction l with
|nil=>rfl
|cons b l ih=>
  have hn':=KW.mp hn;by_cases q:b=h
  .subst q;rw[List.erase_cons_head,K7,if_neg (by simp)];symm;rw[List.filter_eq_self];intro x hx;have:x≠b:=by rintro rfl;exact hn'.1 hx
   simpa using this
  .rw[Pm (by simpa using q),K7,if_pos (by simpa using q),ih hn'.2]
end
end Rg
end
section
namespace Rg
end Rg
end
section
namespace Rg
section
variable{W:Nat->List Nat}{O:Nat->Option Nat}{s:S}{a b:Nat->Nat}
theorem Cyc.pre{C:List Nat}(c:Cyc W O s C){h:Nat}(hh:h∈C):∃l∈C,nxt W O s l=h:=by obtain⟨k,e⟩:=c.per h hh;rw[dJ]at e;exact⟨_,c.it_mem hh k,e⟩
end
end Rg
end
section
namespace Rg
section
variable{W:Nat->List Nat}{O:Nat->Option Nat}{s:S}{a:Nat->Nat}
structure Chain(W:Nat->List Nat)(O:Nat->Option Nat)(s:S)(A:List Nat):Prop where
 nd:A.Nodup
 sub:∀h∈A,h∈s.line
 hd:∀h l,A=h::l->s.line.headD 0=h
 nx:∀(i:Nat) h l,A[i]? = some h->A[i+1]? = some l->O l=some (bj W s h)
theorem Dr:Chain W O s []:=⟨N8,fun _ h=>(nomatch h),fun _ _ h=>(nomatch h),fun i h l e=>by simp at e⟩
theorem Ds(hne:s.line≠[]):Chain W O s [s.line.headD 0]:=by refine⟨by simp,fun h hh=>?_,fun h l e=>by cases e;rfl,fun i h l e1 e2=>by simp at e2⟩;have:=t_.mp hh;subst this;cases e:s.line with
|nil=>exact absurd e hne
|cons b t=>exact j_
variable{A:List Nat}
theorem Chain.at(c:Chain W O s A){i h:Nat}(e:A[i]? = some h):h∈A:=Lh e
theorem Chain.nxt(c:Chain W O s A)(k:Ok W O s){i h l:Nat}(e1:A[i]? = some h)(e2:A[i+1]? = some l):Rg.nxt W O s h=l:=j8 k (c.sub l (c.at e2)) (c.nx i h l e1 e2)
theorem Chain.walk(c:Chain W O s A)(k:Ok W O s):∀(t:Nat){j h l:Nat},A[j]? = some h->A[j+t]? = some l->it (Rg.nxt W O s) t h=l
|0,j,h,l,e1,e2=>by rw[P9,e1]at e2;exact G_ e2
|t+1,j,h,l,e1,e2=>by have hlt:j+(t+1)<A.length:=(c_.mp e2).1;have e3:A[j+1]? = some A[j+1]:=d_ (by omega);show it _ t (Rg.nxt W O s h)=l;rw[c.nxt k e1 e3];exact c.walk k t e3 (by rw[show j+1+t=j+(t+1)by omega];exact e2)
theorem mT{i h:Nat}(hh:h∈A.drop i):∃j,i<=j/\A[j]? = some h:=by obtain⟨j,hj⟩:=Ly hh;rw[L9]at hj;exact⟨i+j,by omega,hj⟩
theorem oR{i j h:Nat}(hj:i<=j)(e:A[j]? = some h):h∈A.drop i:=by refine Lh (i:=j-i) ?_;rw[L9,show i+(j-i)=j by omega];exact e
theorem Chain.cyc(c:Chain W O s A)(k:Ok W O s){i z f:Nat}(hz:A[A.length-1]? = some z)(hf:A[i]? = some f)(e:Rg.nxt W O s z=f):Cyc W O s (A.drop i):=by
 have hil:i<A.length:=(c_.mp hf).1;refine⟨fun h hh=>c.sub h (Nz hh),fun h hh=>?_,fun h hh=>?_⟩
 .obtain⟨j,h1,h2⟩:=mT hh;have hj:j<A.length:=(c_.mp h2).1;by_cases q:j+1<A.length
  .have e3:A[j+1]? = some A[j+1]:=d_ q;rw[c.nxt k h2 e3];exact oR (by omega) e3
  .have:j=A.length-1:=by omega
   subst this;rw[hz]at h2;cases h2;rw[e];exact oR (q_ _) hf
 .obtain⟨j,h1,h2⟩:=mT hh;have hj:j<A.length:=(c_.mp h2).1;refine⟨A.length-i-1,?_⟩;have w1:=c.walk k (A.length-1-j) h2 (l:=z) (by rw[show j+(A.length-1-j)=A.length-1 by omega];exact hz);have w2:=c.walk k (j-i) hf (l:=h) (by rw[show i+(j-i)=j by omega];exact h2);rw[show A.length-i-1+1=(A.length-1-j)+((j-i)+1)by omega,c8,w1];show it _ (j-i) (Rg.nxt W O s z)=h;rw[e];exact w2
theorem Chain.apart(c:Chain W O s A){i j h l:Nat}(e1:A[i]? = some h)(e2:A[j]? = some l)(e:h=l):i=j:=by
 subst e;have h1:=(c_.mp e1)
 have h2:=(c_.mp e2)
 obtain⟨b1,q1⟩:=h1;obtain⟨b2,q2⟩:=h2;have:=MY.mp c.nd;rcases Of i j with z|z|z
 .exact absurd (q1.trans q2.symm) (this i j b1 b2 z)
 .exact z
 .exact absurd (q2.trans q1.symm) (this j i b2 b1 z)
theorem Chain.take(c:Chain W O s A){s':S}(i:Nat)(hl:∀(j:Nat) h,j<i->A[j]? = some h->h∈s'.line)(hh:∀h l,A=h::l->0<i->s'.line.headD 0=h)(ht:∀(j:Nat) h l,j+1<i->A[j]? = some h->A[j+1]? = some l->bj W s' h=bj W s h):Chain W O s' (A.take i):=by
 refine⟨c.nd.sublist (PX _ _),fun h hm=>?_,fun h l e=>?_,fun j h l e1 e2=>?_⟩
 .obtain⟨j,hj⟩:=Ly hm;rw[LQ]at hj;split at hj
  .rename_i q;exact hl j h q hj
  .cases hj
 .cases i with
 |zero=>cases e
 |succ i=>cases A with
  |nil=>cases e
  |cons b t=>cases e;exact hh _ _ rfl (by omega)
 .rw[LQ]at e1 e2;split at e1
  .split at e2
   .rename_i q1 q2;rw[ht j h l q2 e1 e2];exact c.nx j h l e1 e2
   .cases e2
  .cases e1
theorem wf(t:TTC W O a s)(k:Ok W O s)(c:Chain W O s A){i z f:Nat}(hz:A[A.length-1]? = some z)(hf:A[i]? = some f)(hO:O f=some (bj W s z)):Ok W O (minus W s (A.drop i))/\TTC W O a (minus W s (A.drop i))/\Chain W O (minus W s (A.drop i)) (A.take i)/\(∀h∈A.drop i,a h=bj W s h)/\Cyc W O s (A.drop i):=by
 have cy:=c.cyc k hz hf (j8 k (c.sub f (c.at hf)) hO);obtain⟨t1,t2⟩:=rS t k cy;have nin:∀(j:Nat) h,j<i->A[j]? = some h->h∉A.drop i:=fun j h hj e q=>by obtain⟨j',h1,h2⟩:=mT q;have:=c.apart e h2 rfl;omega
 refine⟨mK k cy,t1,c.take i (fun j h hj e=>w_.mpr ⟨c.sub h (c.at e),by simpa using nin j h hj e⟩) (fun h l e hi=>?_) (fun j h l hj e1 e2=>?_),t2,cy⟩
 .have e0:A[0]? = some h:=by rw[e];rfl
  exact pC (c.hd h l e) (KP (c.sub h (c.at e0))) (by simpa using nin 0 h hi e0)
 .have hh:=c.sub h (c.at e1);refine sj (fun x hx=>(w_.mp hx).1) (w_.mpr ⟨k.tgt_mem hh,?_⟩) (k.tgt_row hh);simp only[decide_eq_true_eq];intro q;obtain⟨u,u1,u2⟩:=r_.mp q;have:Rg.nxt W O s u=l:=j8 k (c.sub l (c.at e2)) (by rw[c.nx j h l e1 e2];exact congrArg some u2.symm);exact nin (j+1) l hj e2 (this▸cy.cl u u1)
theorem BY(t:TTC W O a s)(k:Ok W O s)(c:Chain W O s A){z:Nat}(hz:A[A.length-1]? = some z)(hO:∀h∈s.line,O h≠some (bj W s z)):Ok W O (minus W s [z])/\TTC W O a (minus W s [z])/\Chain W O (minus W s [z]) (A.take (A.length-1))/\a z=bj W s z:=by
 have hzl:=c.sub z (c.at hz);have hlen:A.length-1<A.length:=(c_.mp hz).1;have hne:s.line≠[]:=KP hzl;have hfind:s.line.find? (fun h=>decide (O h=some (bj W s z)))=none:=KO.mpr fun h hh=>by simpa using hO h hh
 have hnz:Rg.nxt W O s z=s.line.headD 0:=by unfold Rg.nxt pt;rw[hfind];rfl
 have h0:A[0]? = some (s.line.headD 0):=by cases e:A with
 |nil=>rw[e]at hlen;simp at hlen
 |cons b r=>rw[c.hd b r e];rfl
 have cy:Cyc W O s A:=by have:=c.cyc k hz h0 hnz;rwa[MR]at this
 obtain⟨t1,t2⟩:=rS t k cy;have hza:=t2 z (c.at hz);have k':Ok W O (minus W s [z]):=by
  refine⟨kl k.nl,kl k.nt,?_,fun h hh x hx=>k.row h (w_.mp hh).1 x (w_.mp hx).1,k.inj,fun h hh x hx=>?_⟩
  .have e1:(minus W s [z]).line=s.line.erase z:=by rw[yK k.nl];exact iC fun x _=>by simp
   have e2:(minus W s [z]).things=s.things.erase (bj W s z):=by rw[yK k.nt];exact iC fun x _=>by simp
   rw[e1,e2,Mp hzl,Mp (k.tgt_mem hzl)];have:=k.le;omega
  .have hl:=(w_.mp hh).1;refine w_.mpr ⟨k.own h hl x hx,?_⟩;simp only[B_,LC,t_,decide_eq_true_eq]
   rintro rfl
   exact hO h hl hx
 have neq:∀(j:Nat) h,j<A.length-1->A[j]? = some h->h≠z:=fun j h hj e q=>by have:=c.apart e hz q;omega
 have tg:∀(j:Nat) h,j<A.length-1->A[j]? = some h->bj W (minus W s [z]) h=bj W s h:=fun j h hj e1=>by have hh:=c.sub h (c.at e1);have e2:A[j+1]? = some A[j+1]:=d_ (by omega);refine sj (fun x hx=>(w_.mp hx).1) (w_.mpr ⟨k.tgt_mem hh,?_⟩) (k.tgt_row hh);simp only[B_,LC,t_,decide_eq_true_eq];intro q;exact hO _ (c.sub _ (c.at e2)) (by rw[c.nx j h _ e1 e2];exact congrArg some q)
 have c':Chain W O (minus W s [z]) (A.take (A.length-1)):=by
  refine c.take _ (fun j h hj e=>w_.mpr ⟨c.sub h (c.at e),by simpa using neq j h hj e⟩) (fun h l e hi=>?_) (fun j h l hj e1 e2=>tg j h (by omega) e1);have e0:A[0]? = some h:=by rw[e];rfl
  exact pC (c.hd h l e) hne (by simpa using neq 0 h hi e0)
 refine⟨k',?_,c',hza⟩;by_cases q:A.length-1=0
 .have e:A=[z]:=by cases e:A with
  |nil=>rw[e]at hlen;simp at hlen
  |cons b r=>rw[e]at q hz;simp at q;subst q;simp at hz;rw[hz]
  rw[e]at t1;exact t1
 .have tl:(A.take (A.length-1)).length=A.length-1:=by rw[K5];omega
  have ly:(A.take (A.length-1))[(A.take (A.length-1)).length-1]? = some A[A.length-2]:=by rw[tl,LQ,if_pos (by omega),d_ (by omega)];congr 1
  have e2:A[A.length-2]? = some A[A.length-2]:=d_ (by omega);have oz:O z=some (bj W s A[A.length-2]):=c.nx (A.length-2) _ z e2 (by rw[show A.length-2+1=A.length-1 by omega];exact hz);have l0:(A.take (A.length-1))[0]? = some (s.line.headD 0):=by rw[LQ,if_pos (by omega)];exact h0
  have hd':(minus W s [z]).line.headD 0=s.line.headD 0:=pC rfl hne (by simpa using neq 0 _ (by omega) h0);have fr:Rg.nxt W O (minus W s [z]) A[A.length-2]=s.line.headD 0:=by
   unfold Rg.nxt pt;have:(minus W s [z]).line.find? (fun h=>decide (O h=some (bj W (minus W s [z]) A[A.length-2])))=none:=KO.mpr fun h hh=>by rw[tg (A.length-2) _ (by omega) e2];have hm:=w_.mp hh;simp only[decide_eq_true_eq];intro e;have:=k.inj h z _ e oz;subst this;simpa using hm.2
   rw[this];exact hd'
  have cy':=c'.cyc k' ly l0 fr;rw[MR]at cy';have sub':∀h,h∈A.take (A.length-1)->∃j,j<A.length-1/\A[j]? = some h:=fun h hm=>by
   obtain⟨j,hj⟩:=Ly hm;rw[LQ]at hj;split at hj
   .rename_i q2;exact⟨j,q2,hj⟩
   .cases hj
  have mA:∀h,h∈A↔h∈A.take (A.length-1)\/h=z:=fun h=>by
   constructor
   .intro hm;obtain⟨j,hj⟩:=Ly hm;have hjl:=(c_.mp hj).1;by_cases z1:j<A.length-1
    .left;refine Lh (i:=j) ?_;rw[LQ,if_pos z1];exact hj
    .have:j=A.length-1:=by omega
     subst this;rw[hz]at hj;cases hj;exact .inr rfl
   .rintro(hm|rfl)
    .exact List.mem_of_mem_take hm
    .exact c.at hz
  refine .step (A.take (A.length-1)) cy' (fun h hm=>?_) ?_
  .obtain⟨j,j1,j2⟩:=sub' h hm;rw[tg j h j1 j2];exact t2 h (c.at j2)
  .have e:minus W (minus W s [z]) (A.take (A.length-1))=minus W s A:=by
    unfold minus;simp only[S.mk.injEq,N6];refine⟨iC fun h _=>?_,iC fun x _=>?_⟩
    .rw[Kv];simp only[Kt,decide_eq_true_eq,t_];rw[mA h];constructor
     .rintro⟨q1,q2⟩ (q3|q3)
      .exact q1 q3
      .exact q2 q3
     .exact fun q1=>⟨fun q2=>q1 (.inl q2),fun q2=>q1 (.inr q2)⟩
    .rw[Kv];simp only[Kt,decide_eq_true_eq,B_,LC,t_];constructor
     .rintro⟨q1,q2⟩ q3
      obtain⟨h,h1,h2⟩:=r_.mp q3;rcases(mA h).mp h1 with h3|h3
      .obtain⟨j,j1,j2⟩:=sub' h h3;exact q1 (r_.mpr ⟨h,h3,by have:=tg j h j1 j2;unfold minus at this;simp only[B_,LC,t_]at this;rw[this];exact h2⟩)
      .subst h3;exact q2 h2.symm
     .intro q1;refine⟨fun q2=>?_,fun q2=>q1 (r_.mpr ⟨z,c.at hz,q2.symm⟩)⟩;obtain⟨h,h1,h2⟩:=r_.mp q2;obtain⟨j,j1,j2⟩:=sub' h h1;have:=tg j h j1 j2;unfold minus at this;simp only[B_,LC,t_]at this;rw[this]at h2;exact q1 (r_.mpr ⟨h,c.at j2,h2⟩)
   rw[e];exact t1
theorem B2(c:Chain W O s A){z l:Nat}(hz:A[A.length-1]? = some z)(hl:l∈s.line)(hn:l∉A)(hO:O l=some (bj W s z)):Chain W O s (A++[l]):=by
 have hlen:A.length-1<A.length:=(c_.mp hz).1;refine⟨Lm.mpr ⟨c.nd,by simp,fun x hx y hy=>by rw[t_.mp hy];rintro rfl;exact hn hx⟩,fun h hh=>?_,fun h r e=>?_,fun i h m e1 e2=>?_⟩
 .rcases KU.mp hh with q|q
  .exact c.sub h q
  .rw[t_.mp q];exact hl
 .cases eA:A with
 |nil=>rw[eA]at hlen;simp at hlen
 |cons b t=>rw[eA]at e;cases e;exact c.hd _ _ eA
 .by_cases q:i+1<A.length
  .rw[J_ (by omega)]at e1 e2;exact c.nx i h m e1 e2
  .have hi:i+1<(A++[l]).length:=(c_.mp e2).1;simp at hi;have:i=A.length-1:=by omega
   subst this;rw[J_ (by omega),hz]at e1;cases e1;rw[Lg (by omega),show A.length-1+1-A.length=0 by omega]at e2;cases e2;exact hO
end
end Rg
end
section
namespace Rg
theorem Hi{f:Nat->Nat}{n first:Nat}:∀{k i:Nat}{r:List Nat},(∀t,0<t->t<i->first<it f t first)->d8 f n first k (aX f first i) (it f i first)=some r->∃j,i<=j/\r=aX f first j/\it f j first=first/\∀t,0<t->t<j->first<it f t first:=by
 intro k
 induction k with
|zero=>intro i r _ h;cases h
|succ k ih=>
  intro i r hg h;unfold d8 at h;by_cases c:first<it f i first/\(aX f first i).length<n
  .rw[if_pos c]at h;have e1:aX f first i++[it f i first]=aX f first (i+1):=(o6 f first i).symm
   have e2:f (it f i first)=it f (i+1) first:=(dJ f i first).symm
   rw[e1,e2]at h;obtain⟨j,h1,h2⟩:=ih (i:=i+1) (fun t t0 ti=>by
    by_cases q:t=i
    .subst q;exact c.1
    .exact hg t t0 (by omega)) h
   exact⟨j,by omega,h2⟩
  .rw[if_neg c]at h;by_cases e:it f i first=first
   .rw[if_pos e]at h;cases h;exact⟨i,q_ _,rfl,e,hg⟩
   .rw[if_neg e]at h;cases h
theorem m5{f:Nat->Nat}{n x:Nat}{r:List Nat}(h:cf f n x=some r):∃j,0<j/\r=aX f x j/\it f j x=x/\∀t,0<t->t<j->x<it f t x:=by have h':d8 f n x (n+1) (aX f x 1) (it f 1 x)=some r:=h;obtain⟨j,h1,h2⟩:=Hi (fun t h1 h2=>by omega) h';exact⟨j,by omega,h2⟩
theorem IA{f:Nat->Nat}{x j:Nat}(e:it f j x=x)(hg:∀t,0<t->t<j->x<it f t x):(aX f x j).Nodup:=by
 unfold aX;rw[N7,Og];have hp:∀p q:Nat,p<q->q<j->it f p x≠it f q x:=by
  intro p q hpq hq z;have h1:it f (p+(j-q)) x=x:=by rw[c8,z,<-c8,show q+(j-q)=j by omega];exact e
  have:=hg (p+(j-q)) (by omega) (by omega);omega
 refine MY.mpr fun i l hi hl hil=>?_;simp only[List.getElem_range];simp at hl;exact hp i l hil hl
theorem Dm{f:Nat->Nat}{x j:Nat}(hj:0<j)(e:it f j x=x)(t:Nat):it f t x=it f (t%j) x:=by conv=>lhs;rw[<-QC t j,c8,mD f e]
theorem pG{f:Nat->Nat}{x j y t:Nat}(hj:0<j)(e:it f j x=x)(hg:∀t,0<t->t<j->x<it f t x)(h:it f t x=y):x<=y:=by
 rw[Dm hj e]at h;by_cases q:t%j=0
 .rw[q]at h;have:x=y:=h;omega
 .have:=hg (t%j) (by omega) (MS _ hj);omega
theorem Jf{f:Nat->Nat}{n x y w:Nat}{r u:List Nat}(hr:cf f n x=some r)(hu:cf f n y=some u)(h1:w∈r)(h2:w∈u):x=y:=by
 obtain⟨j,j0,rfl,je,jg⟩:=m5 hr;obtain⟨l,l0,rfl,le,lg⟩:=m5 hu;obtain⟨p,hp,e1⟩:=r_.mp h1;obtain⟨q,hq,e2⟩:=r_.mp h2;have hp:=s_.mp hp;have hq:=s_.mp hq;have a1:it f (p+(l-q)) x=y:=by rw[c8,e1,<-e2,<-c8,show q+(l-q)=l by omega];exact le
 have a2:it f (q+(j-p)) y=x:=by rw[c8,e2,<-e1,<-c8,show p+(j-p)=j by omega];exact je
 have:=pG j0 je jg a1;have:=pG l0 le lg a2;omega
theorem AZ{f:Nat->Nat}{n:Nat}:∀{l:List Nat},l.Nodup->(l.filterMap fun h=>cf f n h).flatten.Nodup
|[],_=>N8
|x::l,h=>by have hn:=KW.mp h;have ih:=AZ (f:=f) (n:=n) hn.2;rw[K4];cases e:cf f n x with
 |none=>exact ih
 |some r=>
   rw[LG];obtain⟨j,j0,hr,je,jg⟩:=m5 e;refine Lm.mpr ⟨by rw[hr];exact IA je jg,ih,fun a ha b hb=>?_⟩
   rintro rfl
   obtain⟨u,u1,u2⟩:=KS.mp hb;obtain⟨y,y1,y2⟩:=KY.mp u1;have:=Jf e y2 ha u2;subst this;exact hn.1 y1
theorem DV{l m:List (List Nat)}(h:l.Perm m):l.flatten.Perm m.flatten:=h.flatten
end Rg
end
section
namespace Rg
def jL(f:Nat->Nat)(r:List Nat):Prop:=∃x j,0<j/\r=aX f x j/\it f j x=x/\∀t,0<t->t<j->x<it f t x
theorem Hk{f:Nat->Nat}{r u:List Nat}{w:Nat}(hr:jL f r)(hu:jL f u)(h1:w∈r)(h2:w∈u):r=u:=by
 obtain⟨x,j,j0,rfl,je,jg⟩:=hr;obtain⟨y,l,l0,rfl,le,lg⟩:=hu;obtain⟨p,hp,e1⟩:=r_.mp h1;obtain⟨q,hq,e2⟩:=r_.mp h2;have hp:=s_.mp hp;have hq:=s_.mp hq;have a1:it f (p+(l-q)) x=y:=by rw[c8,e1,<-e2,<-c8,show q+(l-q)=l by omega];exact le
 have a2:it f (q+(j-p)) y=x:=by rw[c8,e2,<-e1,<-c8,show p+(j-p)=j by omega];exact je
 have b1:=pG j0 je jg a1;have b2:=pG l0 le lg a2;have e:x=y:=by omega
 subst e;have e:j=l:=by
  rcases Of j l with z|z|z
  .have:=lg j j0 z;omega
  .exact z
  .have:=jg l l0 z;omega
 rw[e]
theorem qW{f:Nat->Nat}{r:List Nat}(h:jL f r):r≠[]:=by obtain⟨x,j,j0,rfl,_⟩:=h;intro z;have:=jE f x j;rw[z]at this;simp at this;omega
theorem Bc{R:List (List Nat)}:R.flatten.Nodup->(∀r∈R,r≠[])->R.Nodup:=by induction R with
|nil=>intro _ _;exact N8
|cons r R ih=>intro h hne;rw[LG]at h;obtain⟨h1,h2,h3⟩:=Lm.mp h;refine KW.mpr ⟨fun z=>?_,ih h2 fun u hu=>hne u (k_ _ hu)⟩;obtain⟨w,hw⟩:=LJ _ (hne r j_);exact h3 w hw w (KS.mpr ⟨r,z,hw⟩) rfl
theorem pD{α:Type}[DecidableEq α]:∀{l m:List α},l.Nodup->m.Nodup->(∀x,x∈l↔x∈m)->l.Perm m
|[],m,_,_,h=>by cases m with
 |nil=>exact .nil
 |cons a m=>exact absurd ((h a).mpr j_) (fun z=>nomatch z)
|a::l,m,hl,hm,h=>by
  have ha:a∈m:=(h a).mp j_;have hl':=KW.mp hl;refine(List.Perm.cons a (pD hl'.2 (hm.erase a) fun x=>?_)).trans (NA ha).symm;constructor
  .intro hx;have hne:x≠a:=by rintro rfl;exact hl'.1 hx
   exact(Ny hne).mpr ((h x).mp (k_ _ hx))
  .intro hx;obtain⟨h1,h2⟩:=(Ov hm).mp hx;exact(z_.mp ((h x).mpr h2)).resolve_left h1
theorem IY{f:Nat->Nat}{R U:List (List Nat)}{l:List Nat}(hl:l.Nodup)(hR:R.flatten.Perm l)(hU:U.flatten.Perm l)(r1:∀r∈R,jL f r)(u1:∀u∈U,jL f u):R.Perm U:=by
 have nR:=Bc (hR.nodup_iff.mpr hl) fun r hr=>qW (r1 r hr);have nU:=Bc (hU.nodup_iff.mpr hl) fun r hr=>qW (u1 r hr);have one:∀{R U:List (List Nat)},R.flatten.Perm l->U.flatten.Perm l->(∀r∈R,jL f r)->(∀u∈U,jL f u)->∀x∈R,x∈U:=by intro R U hR hU r1 u1 x hx;obtain⟨w,hw⟩:=LJ _ (qW (r1 x hx));have h1:w∈U.flatten:=hU.mem_iff.mpr (hR.mem_iff.mp (KS.mpr ⟨x,hx,hw⟩));obtain⟨u,h2,h3⟩:=KS.mp h1;rw[Hk (r1 x hx) (u1 u h2) hw h3];exact h2
 exact pD nR nU fun x=>⟨one hR hU r1 u1 x,one hU hR u1 r1 x⟩
theorem yP{f g:Nat->Nat}{C:List Nat}(h:∀x∈C,f x=g x)(cl:∀x∈C,f x∈C){x:Nat}(hx:x∈C):∀n,it f n x=it g n x/\it f n x∈C
|0=>⟨rfl,hx⟩
|n+1=>by obtain⟨h1,h2⟩:=yP h cl hx n;rw[dJ,dJ,<-h1,<-h _ h2];exact⟨rfl,cl _ h2⟩
end Rg
end
section
namespace Rg
structure Bij(p q:Nat->Nat):Prop where
 l:∀x,q (p x)=x
 r:∀x,p (q x)=x
section
variable{p q:Nat->Nat}
theorem Bij.inj(b:Bij p q){x y:Nat}(h:p x=p y):x=y:=by rw[<-b.l x,h,b.l]
theorem Bij.mem(b:Bij p q){l:List Nat}(x:Nat):p x∈l.map p↔x∈l:=by refine⟨fun h=>?_,fun h=>r_.mpr ⟨x,h,rfl⟩⟩;obtain⟨y,h1,h2⟩:=r_.mp h;exact b.inj h2▸h1
def ofRow(l:List Nat)(x:Nat):Nat:=(l[x]?).getD x
def bX(l:List Nat)(x:Nat):Nat:=if x<l.length then l.idxOf x else x
theorem e8{l:List Nat}{n:Nat}(h:l.Perm (h_ n)):Bij (ofRow l) (bX l):=by
 have hl:l.length=n:=by rw[h.length_eq,K3]
 have hn:l.Nodup:=h.nodup_iff.mpr Lz;refine⟨fun x=>?_,fun x=>?_⟩
 .unfold ofRow bX;by_cases hx:x<l.length
  .rw[d_ hx,My,if_pos (by rw[hl];exact s_.mp (h.mem_iff.mp (MW hx)))];exact hn.idxOf_getElem x hx
  .rw[KH (by omega),Mu,if_neg hx]
 .unfold ofRow bX;by_cases hx:x<l.length
  .rw[if_pos hx];have hm:x∈l:=h.mem_iff.mpr (s_.mpr (by omega));have:=M5.mpr hm;rw[d_ this,My,M9]
  .rw[if_neg hx,KH (by omega),Mu]
theorem c9{l:List Nat}{n:Nat}(h:l.Perm (h_ n)){x:Nat}:ofRow l x<n↔x<n:=by
 have hl:l.length=n:=by rw[h.length_eq,K3]
 unfold ofRow;by_cases hx:x<l.length
 .rw[d_ hx,My];exact⟨fun _=>by omega,fun _=>s_.mp (h.mem_iff.mp (MW hx))⟩
 .rw[KH (by omega),Mu]
end
structure Ren(p q u v:Nat->Nat)(W W':Nat->List Nat)(O O':Nat->Option Nat):Prop where
 b:Bij p q
 c:Bij u v
 row:∀h,W' (p h)=(W h).map u
 own:∀h,O' (p h)=(O h).map u
structure RS(p u:Nat->Nat)(s s':S):Prop where
 line:s'.line=s.line.map p
 th:∀x,u x∈s'.things↔x∈s.things
section
variable{p q u v:Nat->Nat}{W W':Nat->List Nat}{O O':Nat->Option Nat}{s s':S}{a:Nat->Nat}
theorem RS.mem(R:Ren p q u v W W' O O')(r:RS p u s s')(h:Nat):p h∈s'.line↔h∈s.line:=by rw[r.line];exact R.b.mem h
theorem xN{f:Nat->Nat}{z j:Nat}(hj:0<j)(e:it f j z=z)(i:Nat):it f i z∈aX f z j:=by
 refine r_.mpr ⟨i%j,s_.mpr (MS _ hj),?_⟩;have h:=QC i j;have h2:it f (j*(i/j)+i%j) z=it f (i%j) z:=by rw[c8,mD f e]
 rw[h]at h2;exact h2.symm
theorem oY{h:Nat}:h∈dR W O s↔h∈s.line/\∃k,it (nxt W O s) (k+1) h=h:=by
 constructor
 .exact fun hh=>⟨yM.sub h hh,yM.per h hh⟩
 .rintro⟨hl,k,e⟩
  have hm:∀i,it (nxt W O s) i h∈s.line:=by
   intro i
   induction i with
  |zero=>exact hl
  |succ i ih=>rw[dJ];exact mL (KP hl)
  let C:=s.line.filter fun x=>decide (x∈aX (nxt W O s) h (k+1));have hC:∀i,it (nxt W O s) i h∈C:=fun i=>w_.mpr ⟨hm i,decide_eq_true (xN (by omega) e i)⟩;have hC':∀x∈C,∃i,i<k+1/\it (nxt W O s) i h=x:=fun x hx=>by obtain⟨i,h1,h2⟩:=r_.mp (of_decide_eq_true (w_.mp hx).2);exact⟨i,s_.mp h1,h2⟩
  obtain⟨z,j,h1,h2,h3,h4,h5⟩:=At (f:=nxt W O s) (l:=C) (fun x hx=>by obtain⟨i,_,rfl⟩:=hC' x hx;rw[<-dJ (nxt W O s)];exact hC _) (KP (hC 0));have hz:z∈s.line:=(w_.mp h1).1;refine KS.mpr ⟨aX (nxt W O s) z j,KY.mpr ⟨z,hz,tU h2 (KF h3 (Ln _ _)) h4 h5⟩,?_⟩;obtain⟨i,hi,e2⟩:=hC' z h1;have:it (nxt W O s) (k+1-i) z=h:=by rw[<-e2,<-c8,show i+(k+1-i)=k+1 by omega,e]
  rw[<-this];exact xN h2 h4 _
end
end Rg
end
section
namespace Rg
section
variable{W:Nat->List Nat}{O:Nat->Option Nat}{s:S}
theorem AV{f g:Nat->Nat}{C:List Nat}{n first:Nat}(h:∀x∈C,f x=g x)(cl:∀x∈C,f x∈C):∀(k:Nat)(acc:List Nat)(cur:Nat),cur∈C->d8 f n first k acc cur=d8 g n first k acc cur
|0,_,_,_=>rfl
|k+1,acc,cur,hc=>by unfold d8;rw[h cur hc,AV h cl k _ (g cur) (by rw[<-h cur hc];exact cl cur hc)]
theorem Jt{f g:Nat->Nat}{C:List Nat}{n x:Nat}(h:∀x∈C,f x=g x)(cl:∀x∈C,f x∈C)(hx:x∈C):cf f n x=cf g n x:=by unfold cf;rw[<-h x hx];exact AV h cl _ _ _ (cl x hx)
theorem Bi{α β:Type}{f g:α->Option β}:∀{l:List α},(∀x∈l,f x=g x)->l.filterMap f=l.filterMap g
|[],_=>rfl
|x::l,h=>by rw[K4,K4,h x j_,Bi fun y hy=>h y (k_ _ hy)]
theorem xT{p q:Nat->Nat}(b:Bij p q){n:Nat}(hp:∀x,p x<n↔x<n){x:Nat}(hx:x<n):∃k,0<k/\k<=n/\it p k x=x/\∀i,0<i->i<k->it p i x≠x:=by
 have inj:∀(i d:Nat),it p i x=it p (i+d) x->it p d x=x:=by
  intro i
  induction i with
 |zero=>intro d e;rw[OZ]at e;exact e.symm
 |succ i ih=>intro d e;rw[dJ,PM,dJ]at e;exact ih d (b.inj e)
 obtain⟨i,j,hij,hj,e⟩:=rn (f:=p) (l:=h_ n) (fun h hh=>s_.mpr ((hp h).mpr (s_.mp hh))) (s_.mpr hx);rw[K3]at hj;obtain⟨k,⟨k0,k1⟩,k2⟩:=qu (P:=fun k=>0<k/\it p k x=x) ⟨j-i,by omega,inj i (j-i) (by rw[e,show i+(j-i)=j by omega])⟩;refine⟨k,k0,?_,k1,fun i i0 hi e=>k2 i hi ⟨i0,e⟩⟩;have:¬ j-i<k:=fun z=>k2 _ z ⟨by omega,inj i (j-i) (by rw[e,show i+(j-i)=j by omega])⟩;omega
theorem EM{p q:Nat->Nat}(b:Bij p q){x k:Nat}(h:∀i,0<i->i<k->it p i x≠x){i j:Nat}(hij:i<j)(hj:j<k):it p i x≠it p j x:=by induction i generalizing j with
|zero=>exact fun e=>h j hij hj e.symm
|succ i ih=>
  intro e;obtain⟨j,rfl⟩:∃l,j=l+1:=⟨j-1,by omega⟩
  rw[dJ,dJ]at e;exact ih (by omega) (by omega) (b.inj e)
theorem zx{rs U:List (List Nat)}(k:Ok W O s)(hp:rs.Perm (d7 W O s))(hU:∀u∈U,jL (nxt W O s) u)(hn:U.flatten.Nodup)(hm:∀h,h∈U.flatten↔h∈dR W O s):rs.Perm U:=by refine hp.trans (IY (f:=nxt W O s) hn (pD (AZ k.nl) hn fun x=>(hm x).symm) (.refl _) (fun r hr=>?_) hU);obtain⟨x,_,h2⟩:=KY.mp hr;obtain⟨j,j0,e1,e2,e3⟩:=m5 h2;exact⟨x,j,j0,e1,e2,e3⟩
end
end Rg
end
namespace Law
open PySem PySem.Spec PyProof.Rows L2 DL
abbrev gv(i:Nat):DL.FE:=fun r=>DL.cY r i
abbrev ci(i:Int):DL.FE:=fun _=>.ok (.int i)
abbrev q0:List DL.Md:=[.bw,.bw]
abbrev bc:List DL.Md:=[.bw,.bw,.sh,.sh]
abbrev ck:List DL.Md:=[.bw,.bw,.bw]
abbrev cA:List DL.Md:=[.bw,.bw,.bw,.bw,.bw,.sh,.sh,.sh]
abbrev cU:List DL.Md:=[.bw,.bw,.bw,.sh,.sh,.ow,.ow,.sh,.sh,.sh]
abbrev dc:List DL.Md:=[.sh,.sh,.sh,.ow,.sh,.sh,.sh,.sh,.ow,.sh,.sh,.sh,.sh,.sh,.sh]
abbrev db:List DL.Md:=[.sh,.sh,.sh,.ow,.sh,.sh,.sh,.sh,.sh,.sh,.sh,.sh,.sh,.sh,.sh]
abbrev dM:List DL.Md:=[.bw,.bw,.bw,.sh,.sh,.ow,.sh,.sh,.sh]
abbrev eJ:List DL.Md:=[.bw,.bw,.sh,.sh,.sh,.sh,.sh,.sh]
abbrev eI:List DL.Md:=[.bw,.bw,.bw,.sh]
abbrev eG:List DL.Md:=[.bw,.bw,.sh,.sh,.sh,.ow,.ow,.sh]
abbrev fw:List DL.Md:=[.sh,.bw,.bw,.ow,.sh]
abbrev fu:List DL.Md:=[.bw,.bw,.sh]
abbrev gm:List DL.Md:=[.bw,.bw,.ow,.sh,.sh]
abbrev hZ:List DL.Md:=[.sh,.bw,.ow,.sh]
abbrev hX:List DL.Md:=[.bw,.bw,.sh,.sh,.ow,.sh,.ow,.ow]
abbrev hW:List DL.Md:=[.bw,.bw,.bw,.bw,.ow,.ow,.sh,.sh]
abbrev jk:List DL.Md:=[.bw,.bw,.sh,.sh,.ow,.sh,.ow,.sh]
abbrev jj:List DL.Md:=[.bw,.bw,.bw,.ow,.sh,.ow,.ow,.sh,.sh,.sh]
abbrev ji:List DL.Md:=[.bw,.bw,.bw,.ow,.sh]
abbrev jh:List DL.Md:=[.sh,.sh,.sh,.ow,.sh,.sh,.sh,.sh,.ow,.sh,.sh,.sh,.sh,.sh,.ow]
abbrev kM:List DL.Md:=[.bw,.bw,.sh,.sh,.ow,.sh,.sh,.sh]
abbrev kL:List DL.Md:=[.bw,.ow,.sh,.sh,.sh]
abbrev kK:List DL.Md:=[.bw,.sh,.sh,.sh,.sh]
abbrev kJ:List DL.Md:=[.bw,.bw,.bw,.sh,.sh,.sh,.sh,.sh,.sh]
abbrev kH:List DL.Md:=[.bw,.bw,.bw,.sh,.sh,.sh,.sh,.sh,.sh,.sh]
abbrev kG:List DL.Md:=[.bw,.bw,.bw,.sh,.sh,.ow,.sh,.sh,.sh,.sh]
abbrev kF:List DL.Md:=[.sh,.sh,.sh,.sh,.sh,.sh,.sh,.sh,.sh,.sh,.sh,.sh,.sh,.sh,.sh]
abbrev nH:List DL.Md:=[.bw,.bw,.bw,.bw,.ow,.ow,.sh,.ow]
abbrev nG:List DL.Md:=[.bw,.bw,.bw,.ow,.sh,.ow,.sh,.sh,.sh]
abbrev nF:List DL.Md:=[.bw,.bw,.bw,.ow,.ow,.ow,.sh,.sh,.sh]
abbrev nE:List DL.Md:=[.bw,.bw,.sh,.sh,.sh,.ow,.sh,.sh]
theorem B7{α:Type}(us:List α)(h:us.length=2):∃a0 a1,us=[a0,a1]:=by match us,h with
|[_,_],_=>exact⟨_,_,rfl⟩
theorem oi{α:Type}(us:List α)(h:us.length=3):∃a0 a1 a2,us=[a0,a1,a2]:=by match us,h with
|[_,_,_],_=>exact⟨_,_,_,rfl⟩
def cr(i:Nat):Stmt:=NI.main.body.getD i (.Pass ⟨0,0,0,0⟩)
structure Txt(K:W.Frag)(mg:Str->Option a_):Prop where
 b_len:mg "len" = none
 b_range:mg "range" = none
 b_tuple:mg "tuple" = none
 b_min:mg "min" = none
 b_list:mg "list" = none
 b_zip:mg "zip" = none
 b_sorted:mg "sorted" = none
 b_isinstance:mg "isinstance" = none
 b_bool:mg "bool" = none
 b_int:mg "int" = none
 b_enumerate:mg "enumerate" = none
 b_all:mg "all" = none
abbrev sB:Stmt:=cr 30
abbrev AF:List Str:=["_law_script","_law_k","_law_cell_here","_law_stirred"]
abbrev lQ:List Str:=["_law_script","_law_k"]
theorem pT:FnScope AF lQ (aw sB):=cu
def pj:FS:=(aa (ao bc 2 (ci 0)) (aa (cM bc (aN (f2 (gv 1) (fC (ag (gv 0) ae) lenD) jI)) (aa (ao bc 2 (f2 (f2 (gv 0) (gv 1) aW) (f2 (ci 10) (ci 60) h9) bz)) ay) ay) (aa (cM bc (dS (aN (f2 (fC (ag (gv 0) ae) lenD) (ci 0) jK)) (aN (f2 (f2 (f2 (gv 0) (ci 0) aW) (ci 2) bz) (ci 0) eqD))) (aa (ax bc (gv 2)) ay) ay) (aa (ao bc 3 (f2 (f2 (f2 (f2 (f2 (f2 (f2 (gv 2) (f2 (f2 (ci 7) (gv 1) cK) (gv 1) cK) addA) (f2 (ci 13) (gv 1) cK) addA) (ci 5) addA) (ci 48271) cK) (ci 2147483647) bz) (ci 69621) cK) (ci 1000000007) bz)) (aa (ax bc (f2 (f2 (f2 (f2 (f2 (gv 3) (ci 1) addA) (ci 40692) cK) (ci 2147483629) bz) (ci 39373) cK) (ci 999999937) bz)) ay)))))
def cR:List D->Res D:=fun ds=>aD false (pj (bh AF.length ds))
variable{P:E_}{w:Kz}{K:W.Frag}{mg:Str->Option a_}{base:Heap}
theorem Gm(T:Txt K mg)(A:DefAt K mg "_law_cell" sB):Callee P w K mg base "_law_cell" lQ [] 1 false q0 cR:=
 cQ (m':=bc) A pT fun f cdv A outer s H g E hr hu1=>have hu64:=hr.units;(am (cb 2 pT.nd qM)
   (am (bR (nB (af 1) (bE (gU (by rfl) T.b_len (bp (af 0) bq)))) (am (cb 2 pT.nd (ir (xB hu1 (af 0) (af 1)) (bE (BJ iB iB))))
   aA)
   aA)
   (am (bR (SW.toQ (wP (kE (bE (gU (by rfl) T.b_len (bp (af 0) bq))) iB) (xv (du hu64 (bE (ir (xB hu1 (af 0) iB) iB)) iB)))) (am (bG (v_ 2))
   aA)
   aA)
   (am (cb 3 pT.nd (ir (bE (jP (bE (ir (bE (jP (bE (gY (bE (gY (bE (gY (af 2) (bE (jP (bE (jP iB (af 1))) (af 1))))) (bE (jP iB (af 1))))) iB)) iB)) iB)) iB)) iB))
   (am (bG (ir (bE (jP (bE (ir (bE (jP (bE (gY (af 3) iB)) iB)) iB)) iB)) iB))
   aA)))))
abbrev sJ:Stmt:=cr 31
abbrev Aj:List Str:=["_law_cell_here","_law_m","_law_row_here","_law_thing"]
abbrev lJ:List Str:=["_law_cell_here","_law_m"]
theorem pE:FnScope Aj lJ (aw sJ):=cu
abbrev AO:FS:=(aa (bS "list" hZ 2 (ag (f2 (gv 0) (f2 (gv 3) (ci 1) addA) bz) (ag (gv 3) ae)) insD) (aa (ao hZ 0 (f2 (gv 0) (f2 (gv 3) (ci 1) addA) jS)) ay))
def sF:FS:=(aa (ao [.sh,.bw,.sh,.sh] 2 (dN ae)) (aa (c7 hZ (dy da (ag (gv 1) ae)) (aE 3) AO) (aa (ax hZ (fC (ag (gv 2) ae) tupD)) ay)))
def eB:List D->Res D:=fun ds=>aD false (sF (bh Aj.length ds))
theorem Ez(T:Txt K mg)(A:DefAt K mg "_law_row" sJ):Callee P w K mg base "_law_row" lJ [] 1 false [.sh,.bw] eB:=
 cQ (m':=hZ) A pE fun f cdv A outer s H g E hr hu1=>(am (eS 2 pE.nd (by rfl) (dO rfl) (fP bI))
   (am (iq Ky rfl (lF (by rfl) T.b_range (bp (af 1) bq)) (bi 3 pE.nd) (am (gW 2 rfl Ks M4 Ow z6 xM (by rfl) (dD rfl) (bb (ir (af 0) (bE (gY (af 3) iB))) (bb (v_ 3) bI)))
   (am (cb 0 pE.nd (xA (af 0) (bE (gY (af 3) iB))))
   aA)))
   (am (bG (gK (by rfl) T.b_tuple (bp (af 2) bq)))
   aA)))
abbrev m9:Stmt:=cr 32
abbrev pX:List Str:=["_law_row_here","_law_thing"]
abbrev pQ:List Str:=["_law_row_here","_law_thing"]
theorem Bd:FnScope pX pQ (aw m9):=cu
def tK:FS:=(aa (ax [.bw,.sh] (f2 (dv (ag (gv 1) ae)) (fC (ag (cG 1 [1] (aF bv (gv 0)) (aE 0) (aN (f2 (gv 0) (gv 1) neD)) (gv 0)) ae) tupD) addA)) ay)
def lM:List D->Res D:=fun ds=>aD false (tK (bh pX.length ds))
theorem GP(T:Txt K mg)(A:DefAt K mg "_law_first" m9):Callee P w K mg base "_law_first" pQ [] 1 false [.bw,.sh] lM:=
 cQ (m':=[.bw,.sh]) A Bd fun f cdv A outer s H g E hr hu1=>have hu64:=hr.units;(am (bG (gY (bE (fQ (bb (v_ 1) bI))) (bE (gK (by rfl) T.b_tuple (bp (SO.toB (iA (X:=(aS bQ P w K mg base pX "_law_first" (aw m9) f cdv A outer s H E).nox) (N':=["_law_one","_law_thing"]) (nl:=1) (cap:=[1]) Bd.nd rfl (dI (osc:=(aw m9)) (ON:=pX) rfl rfl (by decide+kernel)) (dG (af 0)) (fun _ _ _ _ _ _=>(bi 0 (show K9 (["_law_one","_law_thing"]:List Str)by decide+kernel))) (dC (by decide)) (fun _ _ _ _ _ _=>(jB (kC hu64 (af 0) (af 1)))) (fun _ _ _ _ _ _=>(v_ 0)))) bq)))))
   aA)
abbrev tV:Stmt:=cr 33
abbrev A0:List Str:=["_law_hands","_law_things","_law_at","_law_pairs"]
abbrev pN:List Str:=["_law_hands","_law_things"]
theorem uE:FnScope A0 pN (aw tV):=cu
def uF:FS:=(aa (ao bc 2 (fM "list" (gv 0) (ag (fC (ag (gv 0) ae) iN) ae) mN)) (aa (ao bc 3 (f2 (gv 0) (gv 1) qw)) (aa (ax bc (fC (ag (f2 (gQ (gv 3) (gF (gv 2)) (fun _=>Res.ok none)) (gQ (gv 3) (fun _=>Res.ok none) (gF (gv 2))) addE) ae) tupD)) ay)))
def lX:List D->Res D:=fun ds=>aD false (uF (bh A0.length ds))
theorem HG(T:Txt K mg)(A:DefAt K mg "_law_ring_of" tV):Callee P w K mg base "_law_ring_of" pN [] 1 false q0 lX:=
 cQ (m':=bc) A uE fun f cdv A outer s H g E hr hu1=>(am (cb 2 uE.nd (jd Ks Mx Nc sx ss (af 0) (bp (bE (rh rfl (by rfl) T.b_min (bp (af 0) bq))) bq)))
   (am (cb 3 uE.nd (SO.toE (C0 rfl (by rfl) T.b_list (by rfl) T.b_zip (af 0) (af 1))))
   (am (bG (gK (by rfl) T.b_tuple (bp (bE (re (bE (jr (af 3) (iT (af 2)) iS)) (bE (jr (af 3) iS (iT (af 2)))))) bq)))
   aA)))
abbrev nr:Stmt:=cr 34
abbrev qh:List Str:=["_law_script","_law_n","_law_owns","_law_nexts","_law_wishes","_law_hand","_law_rings","_law_hands"]
abbrev uL:List Str:=["_law_script","_law_n"]
theorem i6:FnScope qh uL (aw nr):=cu
abbrev Bl:FQ:=(aN (f2 (f2 (gv 3) (f2 (gv 7) (f1 (ci 1) fB) aW) aW) (gv 7) cB))
abbrev Bj:FS:=(aa (bS "list" kM 4 (ag (az (ag (az (ag (az (ag (gv 0) (ag (f2 (ci 6) (gv 5) addA) ae)) [] cR) (ag (gv 1) ae)) [] eB) (ag (f2 (gv 2) (f2 (gv 3) (gv 5) aW) aW) ae)) [] lM) ae) appD) ay)
abbrev Bk:FS:=(aa (bS "list" hX 7 (ag (f2 (gv 3) (f2 (gv 7) (f1 (ci 1) fB) aW) aW) ae) appD) ay)
abbrev uG:FS:=(aa (ao jk 7 (dN (ag (gv 5) ae))) (aa (dH hX Bl Bk 64) (aa (cM hX (aN (f2 (fC (ag (gv 7) ae) iN) (gv 5) eqD)) (aa (bS "list" hX 6 (ag (az (ag (gv 7) (ag (cG 1 [2,3] (aF bv (gv 7)) (aE 0) (fun _=>Res.ok true) (f2 (gv 1) (f2 (gv 2) (gv 0) aW) aW)) ae)) [] lX) ae) appD) ay) ay) ay)))
def uJ:FS:=(aa (ao eJ 2 (az (ag (az (ag (gv 0) (ag (ci 3) ae)) [] cR) (ag (gv 1) ae)) [] eB)) (aa (ao eJ 3 (az (ag (az (ag (gv 0) (ag (ci 4) ae)) [] cR) (ag (gv 1) ae)) [] eB)) (aa (ao eJ 4 (dN ae)) (aa (c7 kM (dy da (ag (gv 1) ae)) (aE 5) Bj) (aa (ao kM 6 (dN ae)) (aa (c7 jk (dy da (ag (gv 1) ae)) (aE 5) uG) (aa (ax jk (dv (ag (fC (ag (gv 4) ae) tupD) (ag (gv 2) (ag (dN (ag (fC (ag (gv 6) ae) mq) ae)) ae))))) ay)))))))
def qg:List D->Res D:=fun ds=>aD false (uJ (bh qh.length ds))
theorem Je(T:Txt K mg)(A:DefAt K mg "_law_rings_built" nr)(c__law_cell:Callee P w K mg base "_law_cell" lQ [] 1 false q0 cR)(c__law_row:Callee P w K mg base "_law_row" lJ [] 1 false [.sh,.bw] eB)(c__law_first:Callee P w K mg base "_law_first" pQ [] 1 false [.bw,.sh] lM)(c__law_ring_of:Callee P w K mg base "_law_ring_of" pN [] 1 false q0 lX):Callee P w K mg base "_law_rings_built" uL [] 2 false q0 qg:=
 cQ (m':=jk) A i6 fun f cdv A outer s H g E hr hu1=>have hu64:=hr.units;(am (cb 2 i6.nd (aM c__law_row (cL (aM c__law_cell (ai (af 0) (ai iB aK))) (ai (af 1) aK))))
   (am (cb 3 i6.nd (aM c__law_row (cL (aM c__law_cell (ai (af 0) (ai iB aK))) (ai (af 1) aK))))
   (am (eS 4 i6.nd (by rfl) (dO rfl) (fP bI))
   (am (iq Ky rfl (lF (by rfl) T.b_range (bp (af 1) bq)) (bi 5 i6.nd) (am (gW 4 rfl Ks La Lb jF jZ (by rfl) (dD rfl) (bb (aM c__law_first (ai (bE (aM c__law_row (cL (aM c__law_cell (ai (af 0) (ai (bE (gY iB (af 5))) aK))) (ai (af 1) aK)))) (cL (dF hu1 (af 2) (xB hu1 (af 3) (af 5))) aK))) bI))
   aA))
   (am (eS 6 i6.nd (by rfl) (dO rfl) (fP bI))
   (am (iq Ky rfl (lF (by rfl) T.b_range (bp (af 1) bq)) (bi 5 i6.nd) (lK (m':=hX) 7 (am (eS 7 i6.nd (by rfl) (dO rfl) (fP (bb (v_ 5) bI)))
   (am (oy 64 Ky (jM hu1 (xB hu1 (af 3) (xB hu1 (af 7) (bE (qN iB)))) (af 7)) (am (gW 7 rfl Ks La Lb jF jZ (by rfl) (dD rfl) (bb (dF hu1 (af 3) (xB hu1 (af 7) (bE (qN iB)))) bI))
   aA))
   (am (bR (du hu64 (bE (rh rfl (by rfl) T.b_min (bp (af 7) bq))) (af 5)) (am (gW 6 rfl Ks La Lb jF jZ (by rfl) (dD rfl) (bb (aM c__law_ring_of (ai (af 7) (ai (SO.toB (iA (X:=(aS bQ P w K mg base qh "_law_rings_built" (aw nr) f cdv A outer s H E).nox) (N':=["_law_one","_law_owns","_law_nexts"]) (nl:=1) (cap:=[2,3]) i6.nd rfl (dI (osc:=(aw nr)) (ON:=qh) rfl rfl (by decide+kernel)) (dG (af 7)) (fun _ _ _ _ _ _=>(bi 0 (show K9 (["_law_one","_law_owns","_law_nexts"]:List Str)by decide+kernel))) (dC (by decide)) (fun _ _ _ _ _ _=>gX) (fun _ _ _ _ _ _=>(dF hu1 (af 1) (xB hu1 (af 2) (af 0)))))) aK))) bI))
   aA)
   aA)
   aA))) rfl))
   (am (bG (fQ (bb (gK (by rfl) T.b_tuple (bp (af 4) bq)) (bb (v_ 2) (bb (SO.toE (fP (bb (SO.toE (y0 hr (by rfl) T.b_sorted (bp (af 6) bq))) bI))) bI)))))
   aA)))))))
abbrev sM:Stmt:=cr 4
abbrev Am:List Str:=["value"]
abbrev tm:List Str:=["value"]
theorem Jj:FnScope Am tm (aw sM):=cu
def Ic:FS:=(aa (ax [Md.bw] (fj (f1 (gv 0) (fG "int")) (kx (f1 (gv 0) (fG "bool"))))) ay)
def pI:List D->Res D:=fun ds=>aD false (Ic (bh Am.length ds))
theorem EC(T:Txt K mg)(A:DefAt K mg "is_whole" sM):Callee P w K mg base "is_whole" tm [] 1 false [Md.bw] pI:=
 cQ (m':=[Md.bw]) A Jj fun f cdv A outer s H g E hr hu1=>(am (bG (qJ (mw "int" "int" rfl (El _) (by rfl) T.b_isinstance (by rfl) T.b_int (af 0)) (qO (Cv (mw "bool" "bool" rfl (Hm _) (by rfl) T.b_isinstance (by rfl) T.b_bool (af 0))))))
   aA)
abbrev sL:Stmt:=cr 5
abbrev Al:List Str:=["value","bound"]
abbrev tj:List Str:=["value","bound"]
theorem Ji:FnScope Al tj (aw sL):=cu
def sG:FS:=(aa (ax q0 (fj (az (ag (gv 0) ae) [] pI) (mB (ci 0) (gv 0) (gv 1) vO jI))) ay)
def ng:List D->Res D:=fun ds=>aD false (sG (bh Al.length ds))
theorem EB(T:Txt K mg)(A:DefAt K mg "is_below" sL)(c_is_whole:Callee P w K mg base "is_whole" tm [] 1 false [Md.bw] pI):Callee P w K mg base "is_below" tj [] 2 false q0 ng:=
 cQ (m':=q0) A Ji fun f cdv A outer s H g E hr hu1=>(am (bG (qJ (aM c_is_whole (ai (af 0) aK)) (qO (Gs Ci wV Ce Cf iB (af 0) (af 1)))))
   aA)
abbrev sY:Stmt:=cr 6
abbrev A9:List Str:=["numbers","bound","ahead","place","number"]
abbrev tD:List Str:=["numbers","bound"]
theorem pO:FnScope A9 tD (aw sY):=cu
abbrev uC:FS:=(aa (cM gm (gq (cZ (cE (az (ag (gv 4) (ag (gv 1) ae)) [] ng))) (aN (f2 (gv 4) (gv 2) iH))) (aa (ax gm (gv 3)) ay) ay) (aa (putF gm 2 (gv 4) (fun _=>Res.ok (D.bl true))) ay))
def tx:FS:=(aa (ao [.bw,.bw,.sh,.sh,.sh] 2 (fun _=>Res.ok (D.dic []))) (aa (c7 gm (nL (gv 0)) (gP (cS (aE 3) (cS (aE 4) gH))) uC) (aa (ax gm (fC (ag (gv 0) ae) lenD)) ay)))
def pL:List D->Res D:=fun ds=>aD false (tx (bh A9.length ds))
theorem GC(T:Txt K mg)(A:DefAt K mg "first_wrong" sY)(c_is_below:Callee P w K mg base "is_below" tj [] 2 false q0 ng):Callee P w K mg base "first_wrong" tD [] 3 false q0 pL:=
 cQ (m':=gm) A pO fun f cdv A outer s H g E hr hu1=>(am (eS 2 pO.nd (by rfl) (dO rfl) mI)
   (am (rf Ky rfl (EY (by rfl) T.b_enumerate (uQ 0)) (jU rfl (eh (bi 3 pO.nd) (eh (bi 4 pO.nd) jT))) (am (bR (SW.toQ (hV (jN (iO (bE (aM c_is_below (ai (af 4) (ai (af 1) aK)))))) (mv (nC hu1 (af 4) (af 2))))) (am (bG (v_ 3))
   aA)
   aA)
   (am (jQ 2 hu1 rfl (by rfl) (dD rfl) (af 4) hJ)
   aA)))
   (am (bG (gU (by rfl) T.b_len (bp (af 0) bq)))
   aA)))
abbrev sZ:Stmt:=cr 7
abbrev AR:List Str:=["numbers","bound"]
abbrev tT:List Str:=["numbers","bound"]
theorem JE:FnScope AR tT (aw sZ):=cu
def tM:FS:=(aa (ax q0 (f2 (az (ag (gv 0) (ag (gv 1) ae)) [] pL) (fC (ag (gv 0) ae) lenD) eqD)) ay)
def pW:List D->Res D:=fun ds=>aD false (tM (bh AR.length ds))
theorem GQ(T:Txt K mg)(A:DefAt K mg "are_unlike" sZ)(c_first_wrong:Callee P w K mg base "first_wrong" tD [] 3 false q0 pL):Callee P w K mg base "are_unlike" tT [] 4 false q0 pW:=
 cQ (m':=q0) A JE fun f cdv A outer s H g E hr hu1=>have hu64:=hr.units;(am (bG (kz hu64 (bE (aM c_first_wrong (ai (af 0) (ai (af 1) aK)))) (bE (gU (by rfl) T.b_len (bp (af 0) bq)))))
   aA)
abbrev tw:Stmt:=cr 8
abbrev Bh:List Str:=["numbers","bound"]
abbrev uD:List Str:=["numbers","bound"]
theorem J2:FnScope Bh uD (aw tw):=cu
def uB:FS:=(aa (ax q0 (fj (f2 (fC (ag (gv 0) ae) lenD) (gv 1) eqD) (az (ag (gv 0) (ag (gv 1) ae)) [] pW))) ay)
def qd:List D->Res D:=fun ds=>aD false (uB (bh Bh.length ds))
theorem Ib(T:Txt K mg)(A:DefAt K mg "has_each_once" tw)(c_are_unlike:Callee P w K mg base "are_unlike" tT [] 4 false q0 pW):Callee P w K mg base "has_each_once" uD [] 5 false q0 qd:=
 cQ (m':=q0) A J2 fun f cdv A outer s H g E hr hu1=>have hu64:=hr.units;(am (bG (qJ (kz hu64 (bE (gU (by rfl) T.b_len (bp (af 0) bq))) (af 1)) (qO (aM c_are_unlike (ai (af 0) (ai (af 1) aK))))))
   aA)
abbrev sN:Stmt:=cr 10
abbrev An:List Str:=["wishes","order"]
abbrev pJ:List Str:=["wishes","order"]
theorem Jk:FnScope An pJ (aw sN):=cu
def lH:FS:=(aa (cM q0 (aN (f2 (gv 1) (fun _=>Res.ok D.non) iG)) (aa (ax q0 (fC (ag (fC (ag (gv 0) ae) lenD) ae) jY)) ay) ay) (aa (cM q0 (cZ (cE (az (ag (gv 1) (ag (fC (ag (gv 0) ae) lenD) ae)) [] qd))) (aa (fun _=>Out.stuck) ay) ay) (aa (ax q0 (fC (ag (gv 1) ae) iM)) ay)))
def jH:List D->Res D:=fun ds=>aD false (lH (bh An.length ds))
theorem ED(T:Txt K mg)(A:DefAtD K mg "order_of" sN [Value.none])(c_has_each_once:Callee P w K mg base "has_each_once" uD [] 5 false q0 qd):Callee P w K mg base "order_of" pJ [] 6 false q0 jH:=by
 refine mP (ds:=[]) (k:=5) (fs:=lH) (m':=q0) A Jk rfl 2 rfl (fun _ _ _ _ _ _ _ us hl=>by obtain⟨u0,u1,rfl⟩:=B7 us hl;exact⟨_,rfl,rfl⟩) fun f cdv A outer s H g E hr=>?_;have hu1:=jV hr;have hu64:=hr.units;exact(am (bR (kD (af 1) (bE iL)) (am (bG (SO.toE (rq rfl (by rfl) T.b_list (by rfl) T.b_range (bp (bE (gU (by rfl) T.b_len (bp (af 0) bq))) bq))))
   aA)
   aA)
   (am (bR (jN (iO (bE (aM c_has_each_once (ai (af 1) (ai (bE (gU (by rfl) T.b_len (bp (af 0) bq))) aK)))))) (am FG
   aA)
   aA)
   (am (bG (SO.toE (om (by rfl) T.b_list (bp (af 1) bq))))
   aA)))
abbrev nb:Stmt:=cr 12
abbrev pv:List Str:=["row","things"]
abbrev pA:List Str:=["row","things"]
theorem AT:FnScope pv pA (aw nb):=cu
def sQ:FS:=(aa (ax q0 (f2 (cG 1 [1] (aF bv (gv 0)) (aE 0) (aN (f2 (gv 0) (gv 1) iH)) (gv 0)) (ci 0) aW)) ay)
def jG:List D->Res D:=fun ds=>aD false (sQ (bh pv.length ds))
theorem Gn(T:Txt K mg)(A:DefAt K mg "best_left" nb):Callee P w K mg base "best_left" pA [] 1 false q0 jG:=
 cQ (m':=q0) A AT fun f cdv A outer s H g E hr hu1=>(am (bG (dF hu1 (SO.toB (iA (X:=(aS bQ P w K mg base pv "best_left" (aw nb) f cdv A outer s H E).nox) (N':=["thing","things"]) (nl:=1) (cap:=[1]) AT.nd rfl (dI (osc:=(aw nb)) (ON:=pv) rfl rfl (by decide+kernel)) (dG (af 0)) (fun _ _ _ _ _ _=>(bi 0 (show K9 (["thing","things"]:List Str)by decide+kernel))) (dC (by decide)) (fun _ _ _ _ _ _=>(jB (nC hu1 (af 0) (af 1)))) (fun _ _ _ _ _ _=>(v_ 0)))) iB))
   aA)
abbrev tf:Stmt:=cr 13
abbrev AS:List Str:=["owns","line","thing","hand"]
abbrev pS:List Str:=["owns","line","thing"]
theorem Bf:FnScope AS pS (aw tf):=cu
abbrev ni:FS:=(aa (cM eI (aN (f2 (f2 (gv 0) (gv 3) aW) (gv 2) eqD)) (aa (ax eI (gv 3)) ay) ay) ay)
def tR:FS:=(aa (c7 eI (aF bv (gv 1)) (aE 3) ni) (aa (ax eI (fun _=>Res.ok D.non)) ay))
def kj:List D->Res D:=fun ds=>aD false (tR (bh AS.length ds))
theorem GS(T:Txt K mg)(A:DefAt K mg "owner_left" tf):Callee P w K mg base "owner_left" pS [] 1 false ck kj:=
 cQ (m':=eI) A Bf fun f cdv A outer s H g E hr hu1=>have hu64:=hr.units;(am (xC Ky rfl (dG (af 1)) (fun _=>(bi 3 Bf.nd)) (fun _=>(am (bR (du hu64 (xB hu1 (af 0) (af 3)) (af 2)) (am (bG (v_ 3))
   aA)
   aA)
   aA)))
   (am (bG iL)
   aA))
abbrev uA:Stmt:=cr 18
abbrev Bo:List Str:=["owns","line","thing","owner"]
abbrev uP:List Str:=["owns","line","thing"]
theorem Bm:FnScope Bo uP (aw uA):=cu
def uN:FS:=(aa (ao eI 3 (az (ag (gv 0) (ag (gv 1) (ag (gv 2) ae))) [] kj)) (aa (ax eI (jm (aN (f2 (gv 3) (fun _=>Res.ok D.non) iG)) (f2 (gv 1) (ci 0) aW) (gv 3))) ay))
def nu:List D->Res D:=fun ds=>aD false (uN (bh Bo.length ds))
theorem IG(T:Txt K mg)(A:DefAt K mg "hand_pointed_at" uA)(c_owner_left:Callee P w K mg base "owner_left" pS [] 1 false ck kj):Callee P w K mg base "hand_pointed_at" uP [] 2 false ck nu:=
 cQ (m':=eI) A Bm fun f cdv A outer s H g E hr hu1=>(am (cb 3 Bm.nd (aM c_owner_left (ai (af 0) (ai (af 1) (ai (af 2) aK)))))
   (am (bG (qL (kD (af 3) (bE iL)) (dF hu1 (af 1) iB) (v_ 3)))
   aA))
abbrev sD:Stmt:=cr 19
abbrev AH:List Str:=["first","targets","behind","ring","hand"]
abbrev sV:List Str:=["first","targets","behind"]
theorem pV:FnScope AH sV (aw sD):=cu
abbrev tH:FQ:=(dS (aN (f2 (gv 4) (gv 0) jK)) (aN (f2 (fC (ag (gv 3) ae) lenD) (fC (ag (gv 1) ae) lenD) jI)))
abbrev Bg:FS:=(aa (bS "list" fw 3 (ag (dv (ag (gv 4) (ag (f2 (gv 1) (gv 4) aW) ae))) ae) appD) (aa (ao fw 4 (f2 (gv 2) (gv 4) aW)) ay))
def sR:FS:=(aa (ao [.sh,.bw,.bw,.sh,.sh] 3 (dN (ag (dv (ag (gv 0) (ag (f2 (gv 1) (gv 0) aW) ae))) ae))) (aa (ao fw 4 (f2 (gv 2) (gv 0) aW)) (aa (dH fw tH Bg 64) (aa (ax fw (jm (aN (f2 (gv 4) (gv 0) eqD)) (fC (ag (gv 3) ae) tupD) (fun _=>Res.ok D.non))) ay))))
def pq:List D->Res D:=fun ds=>aD false (sR (bh AH.length ds))
theorem Gq(T:Txt K mg)(A:DefAt K mg "ring_from" sD):Callee P w K mg base "ring_from" sV [] 1 false [.sh,.bw,.bw] pq:=
 cQ (m':=fw) A pV fun f cdv A outer s H g E hr hu1=>have hu64:=hr.units;(am (eS 3 pV.nd (by rfl) (dO rfl) (fP (bb (fQ (bb (v_ 0) (bb (dF hu1 (af 1) (af 0)) bI))) bI)))
   (am (cb 4 pV.nd (dF hu1 (af 2) (af 0)))
   (am (oy 64 Ky (SW.toQ (wP (kE (af 4) (af 0)) (xv (nB (bE (gU (by rfl) T.b_len (bp (af 3) bq))) (bE (gU (by rfl) T.b_len (bp (af 1) bq))))))) (am (gW 3 rfl Ks La Lb jF jZ (by rfl) (dD rfl) (bb (fQ (bb (v_ 4) (bb (dF hu1 (af 1) (af 4)) bI))) bI))
   (am (cb 4 pV.nd (dF hu1 (af 2) (af 4)))
   aA)))
   (am (bG (qL (du hu64 (af 4) (af 0)) (gK (by rfl) T.b_tuple (bp (af 3) bq)) iL))
   aA))))
abbrev ko:Stmt:=cr 20
abbrev lS:List Str:=["wishes","owns","line","things","targets","behind","hand","walks"]
abbrev t8:List Str:=["wishes","owns","line","things"]
theorem lV:FnScope lS t8 (aw ko):=cu
abbrev Bq:FS:=(aa (putF hW 4 (gv 6) (az (ag (f2 (gv 0) (gv 6) aW) (ag (gv 3) ae)) [] jG)) (aa (putF hW 5 (gv 6) (az (ag (gv 1) (ag (gv 2) (ag (f2 (gv 4) (gv 6) aW) ae))) [] nu)) ay))
def tZ:FS:=(aa (ao [.bw,.bw,.bw,.bw,.sh,.sh,.sh,.sh] 4 (fun _=>Res.ok (D.dic []))) (aa (ao [.bw,.bw,.bw,.bw,.ow,.sh,.sh,.sh] 5 (fun _=>Res.ok (D.dic []))) (aa (c7 hW (aF bv (gv 2)) (aE 6) Bq) (aa (ao hW 7 (cG 1 [4,5] (aF bv (gv 2)) (aE 0) (fun _=>Res.ok true) (az (ag (gv 0) (ag (gv 1) (ag (gv 2) ae))) [] pq))) (aa (ax nH (fC (ag (cG 1 [] (aF bv (gv 7)) (aE 0) (aN (f2 (gv 0) (fun _=>Res.ok D.non) fF)) (gv 0)) ae) mq)) ay)))))
def pY:List D->Res D:=fun ds=>aD false (tZ (bh lS.length ds))
theorem IW(T:Txt K mg)(A:DefAt K mg "rings_of_round" ko)(c_best_left:Callee P w K mg base "best_left" pA [] 1 false q0 jG)(c_hand_pointed_at:Callee P w K mg base "hand_pointed_at" uP [] 2 false ck nu)(c_ring_from:Callee P w K mg base "ring_from" sV [] 1 false [.sh,.bw,.bw] pq):Callee P w K mg base "rings_of_round" t8 [] 3 false [.bw,.bw,.bw,.bw] pY:=
 cQ (m':=nH) A lV fun f cdv A outer s H g E hr hu1=>(am (eS 4 lV.nd (by rfl) (dO rfl) mI)
   (am (eS 5 lV.nd (by rfl) (dO rfl) mI)
   (am (rf Ky rfl (xk (uQ 2)) (bi 6 lV.nd) (am (jQ 4 hu1 rfl (by rfl) (dD rfl) (af 6) (aM c_best_left (ai (xB hu1 (af 0) (af 6)) (ai (af 3) aK))))
   (am (jQ 5 hu1 rfl (by rfl) (dD rfl) (af 6) (aM c_hand_pointed_at (ai (af 1) (ai (af 2) (ai (xB hu1 (af 4) (af 6)) aK)))))
   aA)))
   (am (i4 7 (X:=(aS bQ P w K mg base lS "rings_of_round" (aw ko) f cdv A outer s H E).nox) (m:=hW) (N':=["hand","targets","behind"]) (nl:=1) (cap:=[4,5]) lV.nd rfl (by rfl) (by rfl) (dI (osc:=(aw ko)) (ON:=lS) rfl rfl (by decide+kernel)) (dG (af 2)) (fun _ _ _ _ _ _=>(bi 0 (show K9 (["hand","targets","behind"]:List Str)by decide+kernel))) (dC (by decide)) (fun _ _ _ _ _ _=>gX) (fun _ _ _ _ _ _=>(aM c_ring_from (cL (v_ 0) (ai (af 1) (ai (af 2) aK))))))
   (am (bG (SO.toE (y0 hr (by rfl) T.b_sorted (bp (SO.toB (iA (X:=(aS bQ P w K mg base lS "rings_of_round" (aw ko) f cdv A outer s H E).nox) (N':=["ring"]) (nl:=1) (cap:=[]) lV.nd rfl (dI (osc:=(aw ko)) (ON:=lS) rfl rfl (by decide+kernel)) (dG (af 7)) (fun _ _ _ _ _ _=>(bi 0 (show K9 (["ring"]:List Str)by decide+kernel))) (dC (by decide)) (fun _ _ _ _ _ _=>(jB (Cr (af 0) (bE iL)))) (fun _ _ _ _ _ _=>(v_ 0)))) bq))))
   aA)))))
abbrev rV:Stmt:=cr 15
abbrev zc:List Str:=["rings","got","ring","hand","thing"]
abbrev lE:List Str:=["rings"]
theorem m6:FnScope zc lE (aw rV):=cu
abbrev Ag:FS:=(aa (putF kL 1 (gv 3) (gv 4)) ay)
abbrev Ah:FS:=(aa (c7 kL (aF bv (gv 2)) (gP (cS (aE 3) (cS (aE 4) gH))) Ag) ay)
def sf:FS:=(aa (ao kK 1 (fun _=>Res.ok (D.dic []))) (aa (c7 kL (aF bv (gv 0)) (aE 2) Ah) (aa (ax kK (gv 1)) ay)))
def gZ:List D->Res D:=fun ds=>aD false (sf (bh zc.length ds))
theorem C2(T:Txt K mg)(A:DefAt K mg "got_in" rV):Callee P w K mg base "got_in" lE [] 1 false [Md.bw] gZ:=
 cQ (m':=kK) A m6 fun f cdv A outer s H g E hr hu1=>(am (eS 1 m6.nd (by rfl) (dO rfl) mI)
   (am (rf Ky rfl (xk (uQ 0)) (bi 2 m6.nd) (am (iq Ky rfl (mn (v_ 2)) (jU rfl (eh (bi 3 m6.nd) (eh (bi 4 m6.nd) jT))) (am (jQ 1 hu1 rfl (by rfl) (dD rfl) (af 3) (v_ 4))
   aA))
   aA))
   (am (wI 1 rfl (bG (v_ 1)))
   aA)))
abbrev sE:Stmt:=cr 9
abbrev AI:List Str:=["wishes"]
abbrev pB:List Str:=["wishes"]
theorem Jx:FnScope AI pB (aw sE):=cu
def sS:FS:=(aa (ax [Md.bw] (fC (ag (f2 (gv 0) (ci 0) aW) ae) lenD)) ay)
def lP:List D->Res D:=fun ds=>aD false (sS (bh AI.length ds))
theorem Gr(T:Txt K mg)(A:DefAt K mg "things_in" sE):Callee P w K mg base "things_in" pB [] 1 false [Md.bw] lP:=
 cQ (m':=[Md.bw]) A Jx fun f cdv A outer s H g E hr hu1=>(am (bG (gU (by rfl) T.b_len (bp (xB hu1 (af 0) iB) bq)))
   aA)
abbrev ki:Stmt:=cr 21
abbrev lD:List Str:=["wishes","owns","order","line","things","told","rings","got","taken"]
abbrev oW:List Str:=["wishes","owns","order"]
theorem i5:FnScope lD oW (aw ki):=cu
abbrev Ap:FQ:=(cE (gv 3))
abbrev Ai:FS:=(aa (ao dM 6 (az (ag (gv 0) (ag (gv 1) (ag (gv 3) (ag (gv 4) ae)))) [] pY)) (aa (ao dM 7 (az (ag (gv 6) ae) [] gZ)) (aa (ao dM 8 (f1 (gv 7) og)) (aa (ao dM 3 (cG 1 [7] (aF bv (gv 3)) (aE 0) (aN (f2 (gv 0) (gv 1) cB)) (gv 0))) (aa (ao nG 4 (cG 1 [8] (aF bv (gv 4)) (aE 0) (aN (f2 (gv 0) (gv 1) cB)) (gv 0))) (aa (bS "list" nF 5 (ag (gv 6) ae) appD) ay))))))
def oV:FS:=(aa (ao kJ 3 (az (ag (gv 0) (ag (gv 2) ae)) [] jH)) (aa (ao kJ 4 (fC (ag (az (ag (gv 0) ae) [] lP) ae) jY)) (aa (ao kJ 5 (dN ae)) (aa (dH dM Ap Ai 64) (aa (ax dM (gv 5)) ay)))))
def kd:List D->Res D:=fun ds=>aD true (oV (bh lD.length ds))
theorem C3(T:Txt K mg)(A:DefAtD K mg "rounds" ki [Value.none])(c_order_of:Callee P w K mg base "order_of" pJ [] 6 false q0 jH)(c_things_in:Callee P w K mg base "things_in" pB [] 1 false [Md.bw] lP)(c_rings_of_round:Callee P w K mg base "rings_of_round" t8 [] 3 false [.bw,.bw,.bw,.bw] pY)(c_got_in:Callee P w K mg base "got_in" lE [] 1 false [Md.bw] gZ):Callee P w K mg base "rounds" oW [] 7 true ck kd:=by
 refine mP (ds:=[]) (k:=6) (fs:=oV) (m':=dM) A i5 rfl 3 rfl (fun _ _ _ _ _ _ _ us hl=>by obtain⟨u0,u1,u2,rfl⟩:=oi us hl;exact⟨_,rfl,rfl⟩) fun f cdv A outer s H g E hr=>?_;have hu1:=jV hr;have hu64:=hr.units;exact(am (cb 3 i5.nd (aM c_order_of (ai (af 0) (ai (af 2) aK))))
   (am (cb 4 i5.nd (SO.toE (rq rfl (by rfl) T.b_list (by rfl) T.b_range (bp (bE (aM c_things_in (ai (af 0) aK))) bq))))
   (am (eS 5 i5.nd (by rfl) (dO rfl) (fP bI))
   (am (oy 64 Ky (iO (af 3)) (lK (m':=[.bw,.bw,.bw,.sh,.ow,.ow,.sh,.sh,.sh]) 4 (lK (m':=nF) 3 (am (cb 6 i5.nd (aM c_rings_of_round (ai (af 0) (ai (af 1) (ai (af 3) (ai (af 4) aK))))))
   (am (cb 7 i5.nd (aM c_got_in (ai (af 6) aK)))
   (am (cb 8 i5.nd (SO.toE (xO rfl (by rfl) T.b_list (af 7))))
   (am (i4 3 (X:=(aS bQ P w K mg base lD "rounds" (aw ki) f cdv A outer s H E).nox) (m:=dM) (N':=["hand","got"]) (nl:=1) (cap:=[7]) i5.nd rfl (by rfl) (by rfl) (dI (osc:=(aw ki)) (ON:=lD) rfl rfl (by decide+kernel)) (dG (af 3)) (fun _ _ _ _ _ _=>(bi 0 (show K9 (["hand","got"]:List Str)by decide+kernel))) (dC (by decide)) (fun _ _ _ _ _ _=>(jB (jM hu1 (af 0) (af 1)))) (fun _ _ _ _ _ _=>(v_ 0)))
   (am (i4 4 (X:=(aS bQ P w K mg base lD "rounds" (aw ki) f cdv A outer s H E).nox) (m:=nG) (N':=["thing","taken"]) (nl:=1) (cap:=[8]) i5.nd rfl (by rfl) (by rfl) (dI (osc:=(aw ki)) (ON:=lD) rfl rfl (by decide+kernel)) (dG (af 4)) (fun _ _ _ _ _ _=>(bi 0 (show K9 (["thing","taken"]:List Str)by decide+kernel))) (dC (by decide)) (fun _ _ _ _ _ _=>(jB (jM hu1 (af 0) (af 1)))) (fun _ _ _ _ _ _=>(v_ 0)))
   (am (gW 5 rfl Ks La Lb jF jZ (by rfl) (dD rfl) (bb (v_ 6) bI))
   aA)))))) rfl) rfl))
   (am (Dz 5 rfl (by rfl) (dD rfl))
   aA)))))
abbrev na:Stmt:=cr 16
abbrev pP:List Str:=["got"]
abbrev pR:List Str:=["got"]
theorem Be:FnScope pP pR (aw na):=cu
def tN:FS:=(aa (ax [Md.bw] (fC (ag (cG 1 [0] (dy da (ag (fC (ag (gv 0) ae) lenD) ae)) (aE 0) (fun _=>Res.ok true) (f2 (gv 1) (gv 0) aW)) ae) tupD)) ay)
def lN:List D->Res D:=fun ds=>aD false (tN (bh pP.length ds))
theorem GR(T:Txt K mg)(A:DefAt K mg "dealing_of" na):Callee P w K mg base "dealing_of" pR [] 1 false [Md.bw] lN:=
 cQ (m':=[Md.bw]) A Be fun f cdv A outer s H g E hr hu1=>(am (bG (gK (by rfl) T.b_tuple (bp (SO.toB (iA (X:=(aS bQ P w K mg base pP "dealing_of" (aw na) f cdv A outer s H E).nox) (N':=["hand","got"]) (nl:=1) (cap:=[0]) Be.nd rfl (dI (osc:=(aw na)) (ON:=pP) rfl rfl (by decide+kernel)) (iJ.toC (lF (by rfl) T.b_range (bp (bE (gU (by rfl) T.b_len (bp (af 0) bq))) bq))) (fun _ _ _ _ _ _=>(bi 0 (show K9 (["hand","got"]:List Str)by decide+kernel))) (dC (by decide)) (fun _ _ _ _ _ _=>gX) (fun _ _ _ _ _ _=>(dF hu1 (af 1) (af 0))))) bq)))
   aA)
abbrev sO:Stmt:=cr 26
abbrev Ao:List Str:=["deed"]
abbrev pK:List Str:=["deed"]
theorem Jl:FnScope Ao pK (aw sO):=cu
def sH:FS:=(aa (cM [Md.bw] (aN (f2 (f2 (gv 0) (ci 0) aW) (fun _=>Res.ok (D.str "ahead")) eqD)) (aa (ax [Md.bw] (dv ae)) ay) ay) (aa (ax [Md.bw] (jm (aN (f2 (f2 (gv 0) (ci 0) aW) (fun _=>Res.ok (D.str "ring")) eqD)) (f2 (gv 0) (ci 1) aW) (dv (ag (gQ (gv 0) (gF (ci 1)) (fun _=>Res.ok none)) ae)))) ay))
def lI:List D->Res D:=fun ds=>aD false (sH (bh Ao.length ds))
theorem EE(T:Txt K mg)(A:DefAt K mg "pairs_of" sO):Callee P w K mg base "pairs_of" pK [] 1 false [Md.bw] lI:=
 cQ (m':=[Md.bw]) A Jl fun f cdv A outer s H g E hr hu1=>have hu64:=hr.units;(am (bR (du hu64 (xB hu1 (af 0) iB) (bE lf)) (am (bG (fQ bI))
   aA)
   aA)
   (am (bG (qL (du hu64 (xB hu1 (af 0) iB) (bE lf)) (dF hu1 (af 0) iB) (fQ (bb (jr (af 0) (iT iB) iS) bI))))
   aA))
abbrev tW:Stmt:=cr 14
abbrev Ba:List Str:=["hands"]
abbrev tF:List Str:=["hands"]
theorem JZ:FnScope Ba tF (aw tW):=cu
def tz:FS:=(aa (ax [Md.bw] (f2 (gQ (gv 0) (gF (ci 1)) (fun _=>Res.ok none)) (gQ (gv 0) (fun _=>Res.ok none) (gF (ci 1))) addE)) ay)
def pM:List D->Res D:=fun ds=>aD false (tz (bh Ba.length ds))
theorem GD(T:Txt K mg)(A:DefAt K mg "ones_behind" tW):Callee P w K mg base "ones_behind" tF [] 1 false [Md.bw] pM:=
 cQ (m':=[Md.bw]) A JZ fun f cdv A outer s H g E hr hu1=>(am (bG (re (bE (jr (af 0) (iT iB) iS)) (bE (jr (af 0) iS (iT iB)))))
   aA)
abbrev nk:Stmt:=cr 24
abbrev p0:List Str:=["owns","askers","turn","hands"]
abbrev t6:List Str:=["owns","askers"]
theorem qb:FnScope p0 t6 (aw nk):=cu
def tY:FS:=(aa (ao bc 2 (fM "list" (gv 1) (ag (fC (ag (gv 1) ae) iN) ae) mN)) (aa (ao bc 3 (f2 (gQ (gv 1) (gF (gv 2)) (fun _=>Res.ok none)) (gQ (gv 1) (fun _=>Res.ok none) (gF (gv 2))) addE)) (aa (ax bc (fC (ag (cG 2 [0] (jl (gv 3) (az (ag (gv 3) ae) [] pM)) (gP (cS (aE 0) (cS (aE 1) gH))) (fun _=>Res.ok true) (dv (ag (gv 0) (ag (f2 (gv 2) (gv 1) aW) ae)))) ae) tupD)) ay)))
def qf:List D->Res D:=fun ds=>aD false (tY (bh p0.length ds))
theorem IV(T:Txt K mg)(A:DefAt K mg "ring_of_askers" nk)(c_ones_behind:Callee P w K mg base "ones_behind" tF [] 1 false [Md.bw] pM):Callee P w K mg base "ring_of_askers" t6 [] 2 false q0 qf:=
 cQ (m':=bc) A qb fun f cdv A outer s H g E hr hu1=>(am (cb 2 qb.nd (jd Ks Mx Nc sx ss (af 1) (bp (bE (rh rfl (by rfl) T.b_min (bp (af 1) bq))) bq)))
   (am (cb 3 qb.nd (re (bE (jr (af 1) (iT (af 2)) iS)) (bE (jr (af 1) iS (iT (af 2))))))
   (am (bG (gK (by rfl) T.b_tuple (bp (SO.toB (iA (X:=(aS bQ P w K mg base p0 "ring_of_askers" (aw nk) f cdv A outer s H E).nox) (N':=["hand","behind","owns"]) (nl:=2) (cap:=[0]) qb.nd rfl (dI (osc:=(aw nk)) (ON:=p0) rfl rfl (by decide+kernel)) (iJ.toC (CG (by rfl) T.b_zip (v_ 3) (aM c_ones_behind (ai (af 3) aK)))) (fun _ _ _ _ _ _=>(jU rfl (eh (bi 0 (show K9 (["hand","behind","owns"]:List Str)by decide+kernel)) (eh (bi 1 (show K9 (["hand","behind","owns"]:List Str)by decide+kernel)) jT)))) (C9 (zS (dC (by decide)) (zS (dC (by decide)) Gf))) (fun _ _ _ _ _ _=>gX) (fun _ _ _ _ _ _=>(fQ (bb (v_ 0) (bb (dF hu1 (af 2) (af 1)) bI)))))) bq)))
   aA)))
abbrev sC:Stmt:=cr 25
abbrev AG:List Str:=["wishes","owns","line","things","askers","hand","thing","owner"]
abbrev sU:List Str:=["wishes","owns","line","things","askers"]
theorem pU:FnScope AG sU (aw sC):=cu
def km:FS:=(aa (ao cA 5 (f2 (gv 4) (f1 (ci 1) fB) aW)) (aa (ao cA 6 (az (ag (f2 (gv 0) (gv 5) aW) (ag (gv 3) ae)) [] jG)) (aa (ao cA 7 (az (ag (gv 1) (ag (gv 2) (ag (gv 6) ae))) [] kj)) (aa (cM cA (gq (aN (f2 (gv 7) (fun _=>Res.ok D.non) iG)) (aN (f2 (gv 7) (gv 5) eqD))) (aa (ax cA (dv (ag (fun _=>Res.ok (D.str "takes")) (ag (gv 5) (ag (gv 6) ae))))) ay) ay) (aa (cM cA (aN (f2 (gv 7) (gv 4) cB)) (aa (ax cA (dv (ag (fun _=>Res.ok (D.str "ahead")) (ag (gv 7) (ag (gv 6) ae))))) ay) ay) (aa (ax cA (dv (ag (fun _=>Res.ok (D.str "ring")) (ag (az (ag (gv 1) (ag (gQ (gv 4) (gF (fM "list" (gv 4) (ag (gv 7) ae) mN)) (fun _=>Res.ok none)) ae)) [] qf) ae)))) ay))))))
def iE:List D->Res D:=fun ds=>aD false (km (bh AG.length ds))
theorem Gp(T:Txt K mg)(A:DefAt K mg "next_deed" sC)(c_best_left:Callee P w K mg base "best_left" pA [] 1 false q0 jG)(c_owner_left:Callee P w K mg base "owner_left" pS [] 1 false ck kj)(c_ring_of_askers:Callee P w K mg base "ring_of_askers" t6 [] 2 false q0 qf):Callee P w K mg base "next_deed" sU [] 3 false [.bw,.bw,.bw,.bw,.bw] iE:=
 cQ (m':=cA) A pU fun f cdv A outer s H g E hr hu1=>have hu64:=hr.units;(am (cb 5 pU.nd (dF hu1 (af 4) (bE (qN iB))))
   (am (cb 6 pU.nd (aM c_best_left (ai (xB hu1 (af 0) (af 5)) (ai (af 3) aK))))
   (am (cb 7 pU.nd (aM c_owner_left (ai (af 1) (ai (af 2) (ai (af 6) aK)))))
   (am (bR (SW.toQ (hV (kD (af 7) (bE iL)) (mv (du hu64 (af 7) (af 5))))) (am (bG (fQ (bb lf (bb (v_ 5) (bb (v_ 6) bI)))))
   aA)
   aA)
   (am (bR (jM hu1 (af 7) (af 4)) (am (bG (fQ (bb lf (bb (v_ 7) (bb (v_ 6) bI)))))
   aA)
   aA)
   (am (bG (fQ (bb lf (bb (aM c_ring_of_askers (ai (af 1) (ai (bE (jr (af 4) (iT (bE (jd Ks Mx Nc sx ss (af 4) (bp (af 7) bq)))) iS)) aK))) bI))))
   aA))))))
abbrev iZ:Stmt:=cr 27
abbrev jD:List Str:=["wishes","owns","order","line","things","askers","told","deed","got","taken"]
abbrev rK:List Str:=["wishes","owns","order"]
theorem gN:FnScope jD rK (aw iZ):=cu
abbrev z8:FQ:=(cE (gv 3))
abbrev sy:FS:=(aa (cM cU (cZ (cE (gv 5))) (aa (ao cU 5 (dN (ag (f2 (gv 3) (ci 0) aW) ae))) ay) ay) (aa (ao cU 7 (az (ag (gv 0) (ag (gv 1) (ag (gv 3) (ag (gv 4) (ag (gv 5) ae))))) [] iE)) (aa (bS "list" cU 6 (ag (gv 7) ae) appD) (aa (cM cU (aN (f2 (f2 (gv 7) (ci 0) aW) (fun _=>Res.ok (D.str "ahead")) eqD)) (aa (bS "list" cU 5 (ag (f2 (gv 7) (ci 1) aW) ae) appD) ay) ay) (aa (ao cU 8 (az (ag (dN (ag (az (ag (gv 7) ae) [] lI) ae)) ae) [] gZ)) (aa (ao cU 9 (f1 (gv 8) og)) (aa (ao cU 3 (cG 1 [8] (aF bv (gv 3)) (aE 0) (aN (f2 (gv 0) (gv 1) cB)) (gv 0))) (aa (ao jj 5 (cG 1 [8] (aF bv (gv 5)) (aE 0) (aN (f2 (gv 0) (gv 1) cB)) (gv 0))) (aa (ao jj 4 (cG 1 [9] (aF bv (gv 4)) (aE 0) (aN (f2 (gv 0) (gv 1) cB)) (gv 0))) ay)))))))))
def oO:FS:=(aa (ao kH 3 (az (ag (gv 0) (ag (gv 2) ae)) [] jH)) (aa (ao kH 4 (fC (ag (az (ag (gv 0) ae) [] lP) ae) jY)) (aa (ao kH 5 (dN ae)) (aa (ao kG 6 (dN ae)) (aa (dH cU z8 sy 64) (aa (ax kG (gv 6)) ay))))))
def oP:List D->Res D:=fun ds=>aD false (oO (bh jD.length ds))
theorem BZ(T:Txt K mg)(A:DefAtD K mg "asked" iZ [Value.none])(c_order_of:Callee P w K mg base "order_of" pJ [] 6 false q0 jH)(c_things_in:Callee P w K mg base "things_in" pB [] 1 false [Md.bw] lP)(c_next_deed:Callee P w K mg base "next_deed" sU [] 3 false [.bw,.bw,.bw,.bw,.bw] iE)(c_pairs_of:Callee P w K mg base "pairs_of" pK [] 1 false [Md.bw] lI)(c_got_in:Callee P w K mg base "got_in" lE [] 1 false [Md.bw] gZ):Callee P w K mg base "asked" rK [] 7 false ck oP:=by
 refine mP (ds:=[]) (k:=6) (fs:=oO) (m':=kG) A gN rfl 3 rfl (fun _ _ _ _ _ _ _ us hl=>by obtain⟨u0,u1,u2,rfl⟩:=oi us hl;exact⟨_,rfl,rfl⟩) fun f cdv A outer s H g E hr=>?_;have hu1:=jV hr;have hu64:=hr.units;exact(am (cb 3 gN.nd (aM c_order_of (ai (af 0) (ai (af 2) aK))))
   (am (cb 4 gN.nd (SO.toE (rq rfl (by rfl) T.b_list (by rfl) T.b_range (bp (bE (aM c_things_in (ai (af 0) aK))) bq))))
   (am (eS 5 gN.nd (by rfl) (dO rfl) (fP bI))
   (am (eS 6 gN.nd (by rfl) (dO rfl) (fP bI))
   (am (oy 64 Ky (iO (af 3)) (lK (m':=[.bw,.bw,.bw,.sh,.ow,.ow,.ow,.sh,.sh,.sh]) 4 (lK (m':=[.bw,.bw,.bw,.ow,.ow,.ow,.ow,.sh,.sh,.sh]) 3 (am (bR (jN (iO (af 5))) (am (eS 5 gN.nd (by rfl) (dO rfl) (fP (bb (dF hu1 (af 3) iB) bI)))
   aA)
   aA)
   (am (cb 7 gN.nd (aM c_next_deed (ai (af 0) (ai (af 1) (ai (af 3) (ai (af 4) (ai (af 5) aK)))))))
   (am (gW 6 rfl Ks La Lb jF jZ (by rfl) (dD rfl) (bb (v_ 7) bI))
   (am (bR (du hu64 (xB hu1 (af 7) iB) (bE lf)) (am (gW 5 rfl Ks La Lb jF jZ (by rfl) (dD rfl) (bb (dF hu1 (af 7) iB) bI))
   aA)
   aA)
   (am (cb 8 gN.nd (aM c_got_in (ai (SO.toB (fP (bb (aM c_pairs_of (ai (af 7) aK)) bI))) aK)))
   (am (cb 9 gN.nd (SO.toE (xO rfl (by rfl) T.b_list (af 8))))
   (am (i4 3 (X:=(aS bQ P w K mg base jD "asked" (aw iZ) f cdv A outer s H E).nox) (m:=cU) (N':=["hand","got"]) (nl:=1) (cap:=[8]) gN.nd rfl (by rfl) (by rfl) (dI (osc:=(aw iZ)) (ON:=jD) rfl rfl (by decide+kernel)) (dG (af 3)) (fun _ _ _ _ _ _=>(bi 0 (show K9 (["hand","got"]:List Str)by decide+kernel))) (dC (by decide)) (fun _ _ _ _ _ _=>(jB (jM hu1 (af 0) (af 1)))) (fun _ _ _ _ _ _=>(v_ 0)))
   (am (i4 5 (X:=(aS bQ P w K mg base jD "asked" (aw iZ) f cdv A outer s H E).nox) (m:=jj) (N':=["hand","got"]) (nl:=1) (cap:=[8]) gN.nd rfl (by rfl) (by rfl) (dI (osc:=(aw iZ)) (ON:=jD) rfl rfl (by decide+kernel)) (dG (af 5)) (fun _ _ _ _ _ _=>(bi 0 (show K9 (["hand","got"]:List Str)by decide+kernel))) (dC (by decide)) (fun _ _ _ _ _ _=>(jB (jM hu1 (af 0) (af 1)))) (fun _ _ _ _ _ _=>(v_ 0)))
   (am (i4 4 (X:=(aS bQ P w K mg base jD "asked" (aw iZ) f cdv A outer s H E).nox) (m:=jj) (N':=["thing","taken"]) (nl:=1) (cap:=[9]) gN.nd rfl (by rfl) (by rfl) (dI (osc:=(aw iZ)) (ON:=jD) rfl rfl (by decide+kernel)) (dG (af 4)) (fun _ _ _ _ _ _=>(bi 0 (show K9 (["thing","taken"]:List Str)by decide+kernel))) (dC (by decide)) (fun _ _ _ _ _ _=>(jB (jM hu1 (af 0) (af 1)))) (fun _ _ _ _ _ _=>(v_ 0)))
   aA))))))))) rfl) rfl))
   (am (wI 6 rfl (bG (v_ 6)))
   aA))))))
abbrev nc:Stmt:=cr 28
abbrev pw:List Str:=["wishes","owns","order"]
abbrev sT:List Str:=["wishes","owns","order"]
theorem AU:FnScope pw sT (aw nc):=cu
def pk:FS:=(aa (ax ck (az (ag (az (ag (cG 1 [] (aF bv (az (ag (gv 0) (ag (gv 1) (ag (gv 2) ae))) [] oP)) (aE 0) (fun _=>Res.ok true) (az (ag (gv 0) ae) [] lI)) ae) [] gZ) ae) [] lN)) ay)
def lO:List D->Res D:=fun ds=>aD false (pk (bh pw.length ds))
theorem Go(T:Txt K mg)(A:DefAtD K mg "by_asking" nc [Value.none])(c_asked:Callee P w K mg base "asked" rK [] 7 false ck oP)(c_pairs_of:Callee P w K mg base "pairs_of" pK [] 1 false [Md.bw] lI)(c_got_in:Callee P w K mg base "got_in" lE [] 1 false [Md.bw] gZ)(c_dealing_of:Callee P w K mg base "dealing_of" pR [] 1 false [Md.bw] lN):Callee P w K mg base "by_asking" sT [] 8 false ck lO:=by
 refine mP (ds:=[]) (k:=7) (fs:=pk) (m':=ck) A AU rfl 3 rfl (fun _ _ _ _ _ _ _ us hl=>by obtain⟨u0,u1,u2,rfl⟩:=oi us hl;exact⟨_,rfl,rfl⟩) fun f cdv A outer s H g E hr=>?_;have hu1:=jV hr;have hu64:=hr.units;exact(am (bG (aM c_dealing_of (ai (bE (aM c_got_in (ai (SO.toB (iA (X:=(aS bQ P w K mg base pw "by_asking" (aw nc) f cdv A outer s H E).nox) (N':=["deed"]) (nl:=1) (cap:=[]) AU.nd rfl (dI (osc:=(aw nc)) (ON:=pw) rfl rfl (by decide+kernel)) (dG (bE (aM c_asked (ai (af 0) (ai (af 1) (ai (af 2) aK)))))) (fun _ _ _ _ _ _=>(bi 0 (show K9 (["deed"]:List Str)by decide+kernel))) (dC (by decide)) (fun _ _ _ _ _ _=>gX) (fun _ _ _ _ _ _=>(aM c_pairs_of (ai (af 0) aK))))) aK))) aK)))
   aA)
abbrev kr:Stmt:=cr 35
abbrev lU:List Str:=["_law_script","_law_n","_law_m","_law_line","_law_things","_law_owns","_law_wishes","_law_at"]
abbrev uO:List Str:=["_law_script","_law_n"]
theorem ku:FnScope lU uO (aw kr):=cu
abbrev Bn:FS:=(aa (cM eG (aN (f2 (gv 7) (ci 0) jK)) (aa (putF eG 5 (f2 (gv 3) (gv 7) aW) (f2 (gv 4) (f2 (gv 7) (ci 1) fq) aW)) ay) ay) (aa (putF eG 6 (f2 (gv 3) (gv 7) aW) (az (ag (az (ag (az (ag (gv 0) (ag (f2 (ci 6) (gv 7) addA) ae)) [] cR) (ag (gv 2) ae)) [] eB) (ag (f2 (gv 4) (gv 7) aW) ae)) [] lM)) ay))
def uM:FS:=(aa (ao eJ 2 (f2 (gv 1) (f2 (f2 (az (ag (gv 0) (ag (ci 2) ae)) [] cR) (ci 3) jS) (f2 (ci 9) (gv 1) fq) bz) addA)) (aa (ao eJ 3 (az (ag (az (ag (gv 0) (ag (ci 3) ae)) [] cR) (ag (gv 1) ae)) [] eB)) (aa (ao eJ 4 (az (ag (az (ag (gv 0) (ag (ci 4) ae)) [] cR) (ag (gv 2) ae)) [] eB)) (aa (ao eJ 5 (cG 1 [] (aF bv (gv 3)) (aE 0) (fun _=>Res.ok true) (fun _=>Res.ok D.non))) (aa (ao nE 6 (cG 1 [] (aF bv (gv 3)) (aE 0) (fun _=>Res.ok true) (fun _=>Res.ok D.non))) (aa (c7 eG (dy da (ag (gv 1) ae)) (aE 7) Bn) (aa (ax eG (dv (ag (fC (ag (gv 6) ae) tupD) (ag (fC (ag (gv 5) ae) tupD) (ag (dN (ag (dN (ag (az (ag (fC (ag (gv 3) ae) iM) (ag (fC (ag (ie (gv 4) (fun _=>Res.ok none) (gF (gv 1))) ae) iM) ae)) [] lX) ae)) ae)) ae))))) ay)))))))
def qa:List D->Res D:=fun ds=>aD false (uM (bh lU.length ds))
theorem IF(T:Txt K mg)(A:DefAt K mg "_law_line_built" kr)(c__law_cell:Callee P w K mg base "_law_cell" lQ [] 1 false q0 cR)(c__law_row:Callee P w K mg base "_law_row" lJ [] 1 false [.sh,.bw] eB)(c__law_first:Callee P w K mg base "_law_first" pQ [] 1 false [.bw,.sh] lM)(c__law_ring_of:Callee P w K mg base "_law_ring_of" pN [] 1 false q0 lX):Callee P w K mg base "_law_line_built" uO [] 2 false q0 qa:=
 cQ (m':=eG) A ku fun f cdv A outer s H g E hr hu1=>(am (cb 2 ku.nd (gY (af 1) (bE (ir (bE (xA (bE (aM c__law_cell (ai (af 0) (ai iB aK)))) iB)) (bE (wJ iB (af 1)))))))
   (am (cb 3 ku.nd (aM c__law_row (cL (aM c__law_cell (ai (af 0) (ai iB aK))) (ai (af 1) aK))))
   (am (cb 4 ku.nd (aM c__law_row (cL (aM c__law_cell (ai (af 0) (ai iB aK))) (ai (af 2) aK))))
   (am (i4 5 (X:=(aS bQ P w K mg base lU "_law_line_built" (aw kr) f cdv A outer s H E).nox) (m:=eJ) (N':=["_law_hand"]) (nl:=1) (cap:=[]) ku.nd rfl (by rfl) (by rfl) (dI (osc:=(aw kr)) (ON:=lU) rfl rfl (by decide+kernel)) (dG (af 3)) (fun _ _ _ _ _ _=>(bi 0 (show K9 (["_law_hand"]:List Str)by decide+kernel))) (dC (by decide)) (fun _ _ _ _ _ _=>gX) (fun _ _ _ _ _ _=>iL))
   (am (i4 6 (X:=(aS bQ P w K mg base lU "_law_line_built" (aw kr) f cdv A outer s H E).nox) (m:=nE) (N':=["_law_hand"]) (nl:=1) (cap:=[]) ku.nd rfl (by rfl) (by rfl) (dI (osc:=(aw kr)) (ON:=lU) rfl rfl (by decide+kernel)) (dG (af 3)) (fun _ _ _ _ _ _=>(bi 0 (show K9 (["_law_hand"]:List Str)by decide+kernel))) (dC (by decide)) (fun _ _ _ _ _ _=>gX) (fun _ _ _ _ _ _=>iL))
   (am (iq Ky rfl (lF (by rfl) T.b_range (bp (af 1) bq)) (bi 7 ku.nd) (am (bR (kE (af 7) iB) (am (jQ 5 hu1 rfl (by rfl) (dD rfl) (xB hu1 (af 3) (af 7)) (dF hu1 (af 4) (bE (wJ (af 7) iB))))
   aA)
   aA)
   (am (jQ 6 hu1 rfl (by rfl) (dD rfl) (xB hu1 (af 3) (af 7)) (aM c__law_first (ai (bE (aM c__law_row (cL (aM c__law_cell (ai (af 0) (ai (bE (gY iB (af 7))) aK))) (ai (af 2) aK)))) (cL (dF hu1 (af 4) (af 7)) aK))))
   aA)))
   (am (bG (fQ (bb (gK (by rfl) T.b_tuple (bp (af 6) bq)) (bb (gK (by rfl) T.b_tuple (bp (af 5) bq)) (bb (SO.toE (fP (bb (SO.toE (fP (bb (aM c__law_ring_of (ai (SO.toB (om (by rfl) T.b_list (bp (af 3) bq))) (ai (SO.toB (om (by rfl) T.b_list (bp (bE (BL (af 4) iS (iT (af 1)))) bq))) aK))) bI))) bI))) bI)))))
   aA)))))))
abbrev kt:Stmt:=cr 36
abbrev lW:List Str:=["_law_script","_law_n","_law_owns","_law_row_here"]
abbrev uK:List Str:=["_law_script","_law_n"]
theorem nq:FnScope lW uK (aw kt):=cu
def uI:FS:=(aa (ao bc 2 (az (ag (az (ag (gv 0) (ag (ci 3) ae)) [] cR) (ag (gv 1) ae)) [] eB)) (aa (ao bc 3 (az (ag (az (ag (gv 0) (ag (ci 4) ae)) [] cR) (ag (gv 1) ae)) [] eB)) (aa (ax bc (dv (ag (fC (ag (cG 1 [3] (aF bv (gv 2)) (aE 0) (fun _=>Res.ok true) (gv 1)) ae) tupD) (ag (gv 2) (ag (cG 1 [2] (aF bv (gv 3)) (aE 0) (fun _=>Res.ok true) (dN (ag (dv (ag (dv (ag (fM "tuple" (gv 1) (ag (gv 0) ae) oF) (ag (gv 0) ae))) ae)) ae))) ae))))) ay)))
def qc:List D->Res D:=fun ds=>aD false (uI (bh lW.length ds))
theorem Jd(T:Txt K mg)(A:DefAt K mg "_law_alike_built" kt)(c__law_cell:Callee P w K mg base "_law_cell" lQ [] 1 false q0 cR)(c__law_row:Callee P w K mg base "_law_row" lJ [] 1 false [.sh,.bw] eB):Callee P w K mg base "_law_alike_built" uK [] 2 false q0 qc:=
 cQ (m':=bc) A nq fun f cdv A outer s H g E hr hu1=>(am (cb 2 nq.nd (aM c__law_row (cL (aM c__law_cell (ai (af 0) (ai iB aK))) (ai (af 1) aK))))
   (am (cb 3 nq.nd (aM c__law_row (cL (aM c__law_cell (ai (af 0) (ai iB aK))) (ai (af 1) aK))))
   (am (bG (fQ (bb (gK (by rfl) T.b_tuple (bp (SO.toB (iA (X:=(aS bQ P w K mg base lW "_law_alike_built" (aw kt) f cdv A outer s H E).nox) (N':=["_law_hand","_law_row_here"]) (nl:=1) (cap:=[3]) nq.nd rfl (dI (osc:=(aw kt)) (ON:=lW) rfl rfl (by decide+kernel)) (dG (af 2)) (fun _ _ _ _ _ _=>(bi 0 (show K9 (["_law_hand","_law_row_here"]:List Str)by decide+kernel))) (dC (by decide)) (fun _ _ _ _ _ _=>gX) (fun _ _ _ _ _ _=>(v_ 1)))) bq)) (bb (v_ 2) (bb (SO.toE (iA (X:=(aS bQ P w K mg base lW "_law_alike_built" (aw kt) f cdv A outer s H E).nox) (N':=["_law_thing","_law_owns"]) (nl:=1) (cap:=[2]) nq.nd rfl (dI (osc:=(aw kt)) (ON:=lW) rfl rfl (by decide+kernel)) (dG (af 3)) (fun _ _ _ _ _ _=>(bi 0 (show K9 (["_law_thing","_law_owns"]:List Str)by decide+kernel))) (dC (by decide)) (fun _ _ _ _ _ _=>gX) (fun _ _ _ _ _ _=>(SO.toE (fP (bb (fQ (bb (fQ (bb (jd PySem.F.plainAttrs_tuple On PySem.F.type_tuple_index HB HN (af 1) (bp (af 0) bq)) (bb (v_ 0) bI))) bI)) bI)))))) bI)))))
   aA)))
abbrev nj:Stmt:=cr 37
abbrev pZ:List Str:=["_law_found","_law_due","_law_rings"]
abbrev t5:List Str:=["_law_found","_law_due"]
theorem uH:FnScope pZ t5 (aw nj):=cu
abbrev Bp:FS:=(aa (cM fu (gq (cZ (cE (f1 (gv 2) (fG "list")))) (cZ (cE (fC (ag (cG 1 [] (aF bv (gv 2)) (aE 0) (fun _=>Res.ok true) (f1 (gv 0) (fG "tuple"))) ae) allD)))) (aa (ax fu (fun _=>Res.ok (D.bl false))) ay) ay) ay)
def tX:FS:=(aa (cM fu (gq (cZ (cE (f1 (gv 0) (fG "list")))) (aN (f2 (gv 0) (gv 1) neD))) (aa (ax fu (fun _=>Res.ok (D.bl false))) ay) ay) (aa (c7 fu (aF bv (gv 0)) (aE 2) Bp) (aa (ax fu (fun _=>Res.ok (D.bl true))) ay)))
def qe:List D->Res D:=fun ds=>aD false (tX (bh pZ.length ds))
theorem IU(T:Txt K mg)(A:DefAt K mg "_law_is_rounds" nj):Callee P w K mg base "_law_is_rounds" t5 [] 1 false q0 qe:=
 cQ (m':=fu) A uH fun f cdv A outer s H g E hr hu1=>have hu64:=hr.units;(am (bR (SW.toQ (hV (jN (iO (bE (mw "list" "list" rfl (yT _) (by rfl) T.b_isinstance (by rfl) T.b_list (af 0))))) (mv (kC hu64 (af 0) (af 1))))) (am (bG hJ)
   aA)
   aA)
   (am (xC Ky rfl (dG (af 0)) (fun _=>(bi 2 uH.nd)) (fun _=>(am (bR (SW.toQ (hV (jN (iO (bE (mw "list" "list" rfl (yT _) (by rfl) T.b_isinstance (by rfl) T.b_list (af 2))))) (mv (jN (iO (bE (Ct rfl (by rfl) T.b_all (bp (SO.toB (iA (X:=(aS bQ P w K mg base pZ "_law_is_rounds" (aw nj) f cdv A outer s H E).nox) (N':=["_law_ring"]) (nl:=1) (cap:=[]) uH.nd rfl (dI (osc:=(aw nj)) (ON:=pZ) rfl rfl (by decide+kernel)) (dG (af 2)) (fun _ _ _ _ _ _=>(bi 0 (show K9 (["_law_ring"]:List Str)by decide+kernel))) (dC (by decide)) (fun _ _ _ _ _ _=>gX) (fun _ _ _ _ _ _=>(mw "tuple" "tuple" rfl (Hv _) (by rfl) T.b_isinstance (by rfl) T.b_tuple (af 0))))) bq)))))))) (am (bG hJ)
   aA)
   aA)
   aA)))
   (am (bG hJ)
   aA)))
abbrev sK:Stmt:=cr 22
abbrev Ak:List Str:=["wishes","owns","order","got","rings"]
abbrev sI:List Str:=["wishes","owns","order"]
theorem sX:FnScope Ak sI (aw sK):=cu
abbrev AQ:FS:=(aa (bS "dict" ji 3 (ag (az (ag (gv 4) ae) [] gZ) ae) updD) ay)
def pH:FS:=(aa (ao [.bw,.bw,.bw,.sh,.sh] 3 (fun _=>Res.ok (D.dic []))) (aa (c7 ji (aF bv (az (ag (gv 0) (ag (gv 1) (ag (gv 2) ae))) [] kd)) (aE 4) AQ) (aa (ax ji (az (ag (gv 3) ae) [] lN)) ay)))
def mY:List D->Res D:=fun ds=>aD false (pH (bh Ak.length ds))
theorem EA(T:Txt K mg)(A:DefAtD K mg "by_rings" sK [Value.none])(c_rounds:Callee P w K mg base "rounds" oW [] 7 true ck kd)(c_got_in:Callee P w K mg base "got_in" lE [] 1 false [Md.bw] gZ)(c_dealing_of:Callee P w K mg base "dealing_of" pR [] 1 false [Md.bw] lN):Callee P w K mg base "by_rings" sI [] 8 false ck mY:=by
 refine mP (ds:=[]) (k:=7) (fs:=pH) (m':=ji) A sX rfl 3 rfl (fun _ _ _ _ _ _ _ us hl=>by obtain⟨u0,u1,u2,rfl⟩:=oi us hl;exact⟨_,rfl,rfl⟩) fun f cdv A outer s H g E hr=>?_;have hu1:=jV hr;have hu64:=hr.units;exact(am (eS 3 sX.nd (by rfl) (dO rfl) mI)
   (am (iq Ky rfl (mn (EO (dds:=[]) c_rounds (hr.mono (by decide)) (ai (af 0) (ai (af 1) (ai (af 2) aK))))) (bi 4 sX.nd) (am (gW 3 rfl OE Op PySem.F.type_dict_update HD E3 (by rfl) (dD rfl) (bb (aM c_got_in (ai (af 4) aK)) bI))
   aA))
   (am (bG (aM c_dealing_of (ai (af 3) aK)))
   aA)))
abbrev my:Stmt:=cr 38
abbrev oa:List Str:=["_law_script","_law_way","_law_n","_law_order","_law_wishes","_law_owns","_law_due","_law_first_here","_law_got","_law_rings","_law_ring","_law_hand","_law_thing","_law_turn","_law_found"]
abbrev wk:List Str:=["_law_script"]
theorem dj:FnScope oa wk (aw my):=cu
abbrev xQ:FS:=(aa (putF dc 8 (gv 11) (gv 12)) ay)
abbrev xR:FS:=(aa (c7 dc (aF bv (gv 10)) (gP (cS (aE 11) (cS (aE 12) gH))) xQ) ay)
abbrev rJ:FS:=(aa (c7 dc (aF bv (gv 9)) (aE 10) xR) ay)
abbrev oQ:FS:=(aa (ao dc 14 (ic (az (ag (gv 4) (ag (gv 5) (ag (gv 3) ae))) [] kd))) (aa (cM jh (gq (cZ (cE (az (ag (gv 14) (ag (gv 6) ae)) [] qe))) (aN (f2 (az (ag (gv 4) (ag (gv 5) (ag (gv 3) ae))) [] mY) (fC (ag (gv 8) ae) tupD) neD))) (aa (ax jh (fun _=>Res.ok (D.bl false))) ay) ay) (aa (bS "list" jh 14 ae clrD) ay)))
def n8:FS:=(aa (ao kF 1 (f2 (az (ag (gv 0) (ag (ci 2) ae)) [] cR) (ci 3) bz)) (aa (ao kF 2 (f2 (ci 1) (f2 (az (ag (gv 0) (ag (ci 1) ae)) [] cR) (ci 7) bz) addA)) (aa (ao kF 3 (fC (ag (az (ag (az (ag (gv 0) (ag (ci 5) ae)) [] cR) (ag (gv 2) ae)) [] eB) ae) iM)) (aa (cM db (aN (f2 (gv 1) (ci 0) eqD)) (aa (gu db (az (ag (gv 0) (ag (gv 2) ae)) [] qg) (gP (cS (aE 4) (cS (aE 5) (cS (aE 6) gH))))) ay) (aa (cM db (aN (f2 (gv 1) (ci 1) eqD)) (aa (gu db (az (ag (gv 0) (ag (gv 2) ae)) [] qa) (gP (cS (aE 4) (cS (aE 5) (cS (aE 6) gH))))) (aa (ao db 7 (f2 (az (ag (az (ag (gv 0) (ag (ci 3) ae)) [] cR) (ag (gv 2) ae)) [] eB) (ci 0) aW)) (aa (bS "list" db 3 (ag (gv 7) ae) remD) (aa (bS "list" db 3 (ag (ci 0) (ag (gv 7) ae)) insD) ay)))) (aa (gu db (az (ag (gv 0) (ag (gv 2) ae)) [] qc) (gP (cS (aE 4) (cS (aE 5) (cS (aE 6) gH))))) ay)) ay)) (aa (ao db 8 (cG 1 [] (aF bv (gv 3)) (aE 0) (fun _=>Res.ok true) (fun _=>Res.ok D.non))) (aa (c7 dc (aF bv (gv 6)) (aE 9) rJ) (aa (c7 dc (dy da (ag (ci 2) ae)) (aE 13) oQ) (aa (ax dc (f2 (az (ag (gv 4) (ag (gv 5) (ag (gv 3) ae))) [] lO) (fC (ag (gv 8) ae) tupD) eqD)) ay))))))))
def nW:List D->Res D:=fun ds=>aD false (n8 (bh oa.length ds))
theorem BF(T:Txt K mg){fa:Addr}{fd:LK}(A:Fun K "law" "law" my fa fd)(c__law_cell:Callee P w K mg base "_law_cell" lQ [] 1 false q0 cR)(c__law_row:Callee P w K mg base "_law_row" lJ [] 1 false [.sh,.bw] eB)(c__law_rings_built:Callee P w K mg base "_law_rings_built" uL [] 2 false q0 qg)(c__law_line_built:Callee P w K mg base "_law_line_built" uO [] 2 false q0 qa)(c__law_alike_built:Callee P w K mg base "_law_alike_built" uK [] 2 false q0 qc)(c_rounds:Callee P w K mg base "rounds" oW [] 7 true ck kd)(c_by_rings:Callee P w K mg base "by_rings" sI [] 8 false ck mY)(c__law_is_rounds:Callee P w K mg base "_law_is_rounds" t5 [] 1 false q0 qe)(c_by_asking:Callee P w K mg base "by_asking" sT [] 8 false ck lO):FnOk P w K mg base bQ 9 fa fd wk (g9 K false [Md.sh] nW):=by
 refine xc (k:=8) (fs:=n8) (m':=dc) A dj rfl fun cdv A outer s H g E hr=>?_;have hu1:=jV hr;have hu64:=hr.units;exact(am (cb 1 dj.nd (ir (bE (aM c__law_cell (ai (af 0) (ai iB aK)))) iB))
   (am (cb 2 dj.nd (gY iB (bE (ir (bE (aM c__law_cell (ai (af 0) (ai iB aK)))) iB))))
   (am (eS 3 dj.nd (by rfl) (dO rfl) (om (by rfl) T.b_list (bp (bE (aM c__law_row (cL (aM c__law_cell (ai (af 0) (ai iB aK))) (ai (af 2) aK)))) bq)))
   (am (bR (du hu64 (af 1) iB) (am (qK (aM c__law_rings_built (ai (af 0) (ai (af 2) aK))) (jU rfl (eh (bi 4 dj.nd) (eh (bi 5 dj.nd) (eh (bi 6 dj.nd) jT)))))
   aA)
   (am (bR (du hu64 (af 1) iB) (am (qK (aM c__law_line_built (ai (af 0) (ai (af 2) aK))) (jU rfl (eh (bi 4 dj.nd) (eh (bi 5 dj.nd) (eh (bi 6 dj.nd) jT)))))
   (am (cb 7 dj.nd (dF hu1 (bE (aM c__law_row (cL (aM c__law_cell (ai (af 0) (ai iB aK))) (ai (af 2) aK)))) iB))
   (am (gW 3 rfl Ks Oo PySem.F.type_list_remove HC D8 (by rfl) (dD rfl) (bb (v_ 7) bI))
   (am (gW 3 rfl Ks M4 Ow z6 xM (by rfl) (dD rfl) (bb qM (bb (v_ 7) bI)))
   aA))))
   (am (qK (aM c__law_alike_built (ai (af 0) (ai (af 2) aK))) (jU rfl (eh (bi 4 dj.nd) (eh (bi 5 dj.nd) (eh (bi 6 dj.nd) jT)))))
   aA))
   aA))
   (am (i4 8 (X:=(aS bQ P w K mg base oa "law" (aw my) fa cdv A outer s H E).nox) (m:=db) (N':=["_law_hand"]) (nl:=1) (cap:=[]) dj.nd rfl (by rfl) (by rfl) (dI (osc:=(aw my)) (ON:=oa) rfl rfl (by decide+kernel)) (dG (af 3)) (fun _ _ _ _ _ _=>(bi 0 (show K9 (["_law_hand"]:List Str)by decide+kernel))) (dC (by decide)) (fun _ _ _ _ _ _=>gX) (fun _ _ _ _ _ _=>iL))
   (am (iq Ky rfl (mn (v_ 6)) (bi 9 dj.nd) (am (iq Ky rfl (mn (v_ 9)) (bi 10 dj.nd) (am (iq Ky rfl (mn (v_ 10)) (jU rfl (eh (bi 11 dj.nd) (eh (bi 12 dj.nd) jT))) (am (jQ 8 hu1 rfl (by rfl) (dD rfl) (af 11) (v_ 12))
   aA))
   aA))
   aA))
   (am (iq Ky rfl (lF (by rfl) T.b_range (bp iB bq)) (bi 13 dj.nd) (lK (m':=jh) 14 (am (eS 14 dj.nd (by rfl) (dO rfl) (ET (dds:=[]) c_rounds (hr.mono (by decide)) (ai (af 4) (ai (af 5) (ai (af 3) aK)))))
   (am (bR (SW.toQ (hV (jN (iO (bE (aM c__law_is_rounds (ai (af 14) (ai (af 6) aK)))))) (mv (kC hu64 (bE (aM c_by_rings (ai (af 4) (ai (af 5) (ai (af 3) aK))))) (bE (gK (by rfl) T.b_tuple (bp (af 8) bq))))))) (am (bG hJ)
   aA)
   aA)
   (am (Dx 14 rfl Ks PySem.F.slot_list_clear PySem.F.type_list_clear GN Dt (by rfl) (dD rfl))
   aA))) rfl))
   (am (bG (kz hu64 (bE (aM c_by_asking (ai (af 4) (ai (af 5) (ai (af 3) aK))))) (bE (gK (by rfl) T.b_tuple (bp (af 8) bq)))))
   aA))))))))
end Law
namespace Law
open PySem L2 DL
abbrev nD(k:Nat):D:=.int (k:Int)
abbrev LN(l:List Nat):D:=.lst (l.map nD)
abbrev TN(l:List Nat):D:=.tup (l.map nD)
def oD:Option Nat->D
|none=>.non
|some k=>nD k
abbrev WD(rz:List (List Nat)):D:=.tup (rz.map TN)
abbrev OD(owns:List (Option Nat)):D:=.tup (owns.map oD)
theorem fm{ds:List D}(h:ds.length<=1000):sz ds=some ds:=BN (KF h (by rw[K1];decide))
@[simp] theorem addA_int(a b:Int):addA (.int a) (.int b)=some (.int (a+b)):=rfl
theorem Ev{a b:Int}(h:fL a b):cK (.int a) (.int b)=some (.int (a*b)):=by rw[cK,intsC_int,if_pos h]
theorem ya{a b:Int}(h:0<b):bz (.int a) (.int b)=some (.int (a%b)):=by rw[bz,intsC_int,if_pos h]
theorem Ge{a b:Int}(h:gB a b):jS (.int a) (.int b)=some (.int (a/b)):=by rw[jS,intsC_int,if_pos h]
theorem ar{s1 s2:FS}{r r':al}(h:s1 r=.nx r'):aa s1 s2 r=s2 r':=by unfold aa;rw[h]
theorem br{s1 s2:FS}{r:al}{d:D}(h:s1 r=.rt d):aa s1 s2 r=.rt d:=by unfold aa;rw[h]
theorem aZ{m:List Md}{i:Nat}{f:FE}{r:al}{d:D}(h:f r=.ok d):ao m i f r=.nx (r.set i (some d)):=by unfold ao;rw[h];rfl
theorem bP{m:List Md}{f:FE}{r:al}{d:D}(h:f r=.ok d):ax m f r=.rt d:=by unfold ax;rw[h];rfl
theorem k9{m:List Md}{p:FQ}{s1 s2:FS}{r:al}{b:Bool}(h:p r=.ok b):cM m p s1 s2 r=if b=true then s1 r else s2 r:=by unfold cM;rw[h];rfl
theorem cW{m:List Md}{p:FQ}{s1 s2:FS}{r:al}(h:p r=.ok true):cM m p s1 s2 r=s1 r:=by rw[k9 h,if_pos rfl]
theorem bU{m:List Md}{p:FQ}{s1 s2:FS}{r:al}(h:p r=.ok false):cM m p s1 s2 r=s2 r:=by rw[k9 h,if_neg i_]
theorem qC{p:FQ}{f f':FE}{r:al}(h:p r=.ok true):jm p f f' r=f r:=by unfold jm;rw[h];rfl
theorem qB{p:FQ}{f f':FE}{r:al}(h:p r=.ok false):jm p f f' r=f' r:=by unfold jm;rw[h];rfl
theorem fT{fl:al->Res (List D)}{r:al}{ds:List D}(h:fl r=.ok ds)(hl:ds.length<=1000):dv fl r=.ok (.tup ds):=by unfold dv;rw[h,bind_ok,fm hl];rfl
theorem fR{fl:al->Res (List D)}{r:al}{ds:List D}(h:fl r=.ok ds)(hl:ds.length<=1000):dN fl r=.ok (.lst ds):=by unfold dN;rw[h,bind_ok,fm hl];rfl
theorem ka{ds:List D}{d:D}(h:ds.length<=1000):appD (.lst ds) [d]=some (.lst (ds++[d])):=by show(if ds.length<sizeLine then some (D.lst (ds++[d]))else none)=_;rw[if_pos (by rw[K1];omega)]
theorem aP{fl:al->Res (List D)}{dds zs:List D}{F:List D->Res D}{r:al}{d:D}(h1:fl r=.ok zs)(h2:F (zs++dds)=.ok d):az fl dds F r=.ok d:=by unfold az;rw[h1,bind_ok,h2];rfl
theorem mh{f:FE}{k:D->Option D}{r:al}{a d:D}(h1:f r=.ok a)(h2:k a=some d):f1 f k r=.ok d:=by unfold f1;rw[h1,bind_ok,h2];rfl
theorem av{f f':FE}{k:D->D->Option D}{r:al}{a b d:D}(h1:f r=.ok a)(h2:f' r=.ok b)(h3:k a b=some d):f2 f f' k r=.ok d:=by unfold f2;rw[h1,bind_ok,h2,bind_ok,h3];rfl
theorem bV{fl:al->Res (List D)}{k:List D->Option D}{r:al}{ds:List D}{d:D}(h1:fl r=.ok ds)(h2:k ds=some d):fC fl k r=.ok d:=by unfold fC;rw[h1,bind_ok,h2];rfl
theorem aj{f:FE}{fl:al->Res (List D)}{r:al}{d:D}{ds:List D}(h1:f r=.ok d)(h2:fl r=.ok ds):ag f fl r=.ok (d::ds):=by unfold ag;rw[h1,bind_ok,h2];rfl
theorem ap{r:al}:ae r=.ok []:=rfl
theorem bN{f:FE}{r:al}{b:Bool}(h:f r=.ok (.bl b)):aN f r=.ok b:=by unfold aN;rw[h];rfl
theorem gL{f:FE}{r:al}{d:D}{b:Bool}(h:f r=.ok d)(h2:gj d=some b):cE f r=.ok b:=by unfold cE;rw[h,bind_ok,h2];rfl
theorem jA{p:FQ}{r:al}{b:Bool}(h:p r=.ok b):cZ p r=.ok (! b):=by unfold cZ;rw[h];rfl
theorem qz{p q:FQ}{r:al}(h:p r=.ok true):dS p q r=q r:=by unfold dS;rw[h];rfl
theorem wl{p q:FQ}{r:al}(h:p r=.ok false):dS p q r=.ok false:=by unfold dS;rw[h];rfl
theorem vL{p q:FQ}{r:al}(h:p r=.ok true):gq p q r=.ok true:=by unfold gq;rw[h];rfl
theorem gp{p q:FQ}{r:al}(h:p r=.ok false):gq p q r=q r:=by unfold gq;rw[h];rfl
theorem xK{f f':FE}{r:al}(h:f r=.ok (.bl true)):fj f f' r=f' r:=by unfold fj;rw[h];rfl
theorem eU{m:List Md}{fi:FI}{ft:FT}{b:FS}{r:al}{ds:List D}(h:fi r=.ok ds):c7 m fi ft b r=aB ft b ds r:=by unfold c7;rw[h];rfl
theorem fU{f:FE}{r:al}{d:D}{ds:List D}(h:f r=.ok d)(h2:bv d=some ds):aF bv f r=.ok ds:=by unfold aF;rw[h,bind_ok,h2];rfl
theorem fg{ft:FT}{b:FS}{r:al}:aB ft b [] r=.nx r:=by unfold aB;rfl
theorem eR{ft:FT}{b:FS}{r r1 r':al}{d:D}{ds:List D}(h1:ft d r=some r1)(h2:b r1=.nx r'):aB ft b (d::ds) r=aB ft b ds r':=by
 conv=>lhs;unfold aB
 simp only[h1,h2]
theorem C8{ft:FT}{b:FS}{r r1:al}{d v:D}{ds:List D}(h1:ft d r=some r1)(h2:b r1=.rt v):aB ft b (d::ds) r=.rt v:=by
 conv=>lhs;unfold aB
 simp only[h1,h2]
theorem oB{m:List Md}{p:FQ}{b:FS}{n:Nat}{r:al}(h:p r=.ok false):dH m p b (n+1) r=.nx r:=by unfold dH;rw[h];rfl
theorem oC{m:List Md}{p:FQ}{b:FS}{n:Nat}{r r':al}(h:p r=.ok true)(h2:b r=.nx r'):dH m p b (n+1) r=dH m p b n r':=by
 conv=>lhs;unfold dH
 rw[h,onE_ok,if_pos rfl,h2]
theorem gI{T:String}{m:List Md}{i:Nat}{fl:al->Res (List D)}{mk:D->List D->Option D}{r:al}{d d':D}{ds:List D}(h1:r[i]? = some (some d))(h2:qj T d=true)(h3:fl r=.ok ds)(h4:mk d ds=some d'):bS T m i fl mk r=.nx (r.set i (some d')):=by unfold bS;rw[h1];simp only[h2,if_true,h3,onE_ok,h4]
theorem j9{m:List Md}{i:Nat}{fk fv:FE}{r:al}{d k v d':D}(h1:r[i]? = some (some d))(h2:fv r=.ok v)(h3:fk r=.ok k)(h4:dL d k v=some d'):DL.putF m i fk fv r=.nx (r.set i (some d')):=by unfold DL.putF;rw[h2,onE_ok];simp only[h1,h3,onE_ok,h4]
theorem ER{fa fb fc:FE}{k k':D->D->Option D}{r:al}{x y w d:D}(h1:fa r=.ok x)(h2:fb r=.ok y)(h3:k x y=some (.bl true))(h4:fc r=.ok w)(h5:k' y w=some d):mB fa fb fc k k' r=.ok d:=by unfold mB;rw[h1,bind_ok,h2,bind_ok,h3,opt_some,bind_ok];show(fc r).bind _=_;rw[h4,bind_ok,h5];rfl
theorem HU{ft:FT}{q:FQ}{fe:FE}{r0:al}:eZ ft q fe r0 []=.ok []:=by unfold eZ;rfl
theorem zN{ft:FT}{q:FQ}{fe:FE}{r0:al}{α:Type}(e:α->D)(keep:α->Bool)(g:α->D):∀(l:List α),(∀a∈l,∃r1,ft (e a) r0=some r1/\q r1=.ok (keep a)/\(keep a=true->fe r1=.ok (g a)))->eZ ft q fe r0 (l.map e)=.ok ((l.filter keep).map g)
|[],_=>HU
|a::l,h=>by
  obtain⟨r1,h1,h2,h3⟩:=h a j_;have ih:=zN (ft:=ft) (q:=q) (fe:=fe) (r0:=r0) e keep g l fun b hb=>h b (k_ _ hb);rw[B_]
  conv=>lhs;unfold eZ
  rw[h1,opt_some,bind_ok,h2,bind_ok];cases k:keep a with
 |true=>rw[if_pos rfl,h3 k,bind_ok,ih,bind_ok,K7,if_pos k];rfl
 |false=>rw[if_neg i_,ih,K7,if_neg (by rw[k];exact i_)]
theorem f8{nl:Nat}{cap:List Nat}{fi:FI}{ft:FT}{q:FQ}{fe:FE}{r:al}{α:Type}{l:List α}(e:α->D)(keep:α->Bool)(g:α->D)(h1:fi r=.ok (l.map e))(hl:l.length<=1000)(h:∀a∈l,∃r1,ft (e a) (bf nl cap r)=some r1/\q r1=.ok (keep a)/\(keep a=true->fe r1=.ok (g a))):cG nl cap fi ft q fe r=.ok (.lst ((l.filter keep).map g)):=by unfold cG;rw[h1,bind_ok,fm (by simpa using hl),opt_some,bind_ok,zN e keep g l h,noXL_ok,bind_ok]
theorem B6(k:Nat):vO (.int 0) (nD k)=some (.bl true):=by show some (D.bl (decide ((0:Int)<=(k:Int))))=_;rw[decide_eq_true (M_ k)]
theorem qv(a b:Nat):jI (nD a) (nD b)=some (.bl (decide (a<b))):=by show some (D.bl (decide ((a:Int)<(b:Int))))=_;simp only[RL]
theorem n6(a b:Nat):jK (nD a) (nD b)=some (.bl (decide (b<a))):=by show some (D.bl (decide ((b:Int)<(a:Int))))=_;simp only[RL]
theorem jR(a b:Nat):eqD (nD a) (nD b)=some (.bl (decide (a=b))):=by
 unfold eqD;rw[eqB_int];show some (D.bl ((a:Int)==(b:Int)))=_;have:((a:Int)==(b:Int))=decide (a=b):=by rw[Kv,beq_iff_eq,decide_eq_true_iff];exact M6
 rw[this]
theorem Cb(a b:Nat):neD (nD a) (nD b)=some (.bl (! decide (a=b))):=by
 unfold neD;rw[eqB_int];show some (D.bl (!((a:Int)==(b:Int))))=_;have:((a:Int)==(b:Int))=decide (a=b):=by rw[Kv,beq_iff_eq,decide_eq_true_iff];exact M6
 rw[this]
theorem cm{B:FS}{n:Nat}{ds:List D}{d:D}(h:B (bh n ds)=.rt d):aD false (B (bh n ds))=.ok d:=by rw[h];rfl
abbrev kI(k:Nat):au:=Sum.inl (k:Int)
theorem xj(kvs:List (Nat×D))(k:Nat):cX (kvs.map fun p=>(kI p.1,p.2)) (kI k)=decide (k∈kvs.map (·.1)):=by
 unfold cX;rw[OU,Kv,OG,decide_eq_true_iff,r_];constructor
 .rintro⟨p,h1,h2⟩
  refine⟨p,h1,?_⟩;simp only[Ms,decide_eq_true_eq]at h2;have:((p.1:Nat):Int)=(k:Int):=Qo h2;exact Int.ofNat.inj this
 .rintro⟨p,h1,rfl⟩
  exact⟨p,h1,by simp⟩
theorem Hb(kvs:List (Nat×D))(k:Nat)(d:D)(h:k∉kvs.map (·.1)):cI (kvs.map fun p=>(kI p.1,p.2)) (kI k) d=(kvs++[(k,d)]).map fun p=>(kI p.1,p.2):=by unfold cI;have e:((kvs.map fun p=>(kI p.1,p.2)).any fun kv=>decide (kv.1=kI k))=decide (k∈kvs.map (·.1)):=xj kvs k;rw[e,decide_eq_false h,if_neg i_,KJ];rfl
@[simp] theorem e_seq(s1 s2:FS)(r:al):aa s1 s2 r=(match s1 r with|.nx r'=>s2 r'|o=>o):=rfl
@[simp] theorem e_skip(r:al):ay r=.nx r:=rfl
@[simp] theorem e_set(m:List Md)(i:Nat)(f:FE)(r:al):ao m i f r=fA m r (f r) fun d=>.nx (r.set i (some d)):=rfl
@[simp] theorem e_ret(m:List Md)(f:FE)(r:al):ax m f r=fA m r (f r) fun d=>.rt d:=rfl
@[simp] theorem e_if(m:List Md)(p:FQ)(s1 s2:FS)(r:al):cM m p s1 s2 r=fA m r (p r) fun c=>if c=true then s1 r else s2 r:=rfl
@[simp] theorem e_getV(r:al)(i:Nat):cY r i=(match r[i]? with|some (some d)=>.ok d|_=>.stuck):=rfl
@[simp] theorem e_f1(f:FE)(k:D->Option D)(r:al):f1 f k r=(f r).bind fun d=>bH (k d):=rfl
@[simp] theorem e_f2(f f':FE)(k:D->D->Option D)(r:al):f2 f f' k r=(f r).bind fun a=>(f' r).bind fun b=>bH (k a b):=rfl
@[simp] theorem e_fC(fl:al->Res (List D))(k:List D->Option D)(r:al):fC fl k r=(fl r).bind fun ds=>bH (k ds):=rfl
@[simp] theorem e_lN(r:al):ae r=.ok []:=rfl
@[simp] theorem e_lC(f:FE)(fl:al->Res (List D))(r:al):ag f fl r=(f r).bind fun d=>(fl r).bind fun ds=>.ok (d::ds):=rfl
@[simp] theorem e_test(f:FE)(r:al):aN f r=(f r).bind fun d=>bH (ig d):=rfl
@[simp] theorem e_tru(f:FE)(r:al):cE f r=(f r).bind fun d=>bH (gj d):=rfl
@[simp] theorem e_not(p:FQ)(r:al):cZ p r=(p r).bind fun c=>.ok (! c):=rfl
@[simp] theorem e_and(p q:FQ)(r:al):dS p q r=(p r).bind fun c=>if c=true then q r else .ok false:=rfl
@[simp] theorem e_or(p q:FQ)(r:al):gq p q r=(p r).bind fun c=>if c=true then .ok true else q r:=rfl
@[simp] theorem e_vand(f f':FE)(r:al):fj f f' r=(f r).bind fun d=>(bH (ig d)).bind fun c=>if c=true then f' r else .ok (.bl false):=rfl
@[simp] theorem e_vor(f f':FE)(r:al):J7 f f' r=(f r).bind fun d=>(bH (ig d)).bind fun c=>if c=true then .ok (.bl true)else f' r:=rfl
@[simp] theorem e_vnot(f:FE)(r:al):kx f r=(f r).bind fun d=>(bH (ig d)).bind fun c=>.ok (.bl (! c)):=rfl
@[simp] theorem e_fIf(p:FQ)(f f':FE)(r:al):jm p f f' r=(p r).bind fun c=>if c=true then f r else f' r:=rfl
@[simp] theorem e_call(fl:al->Res (List D))(dds:List D)(F:List D->Res D)(r:al):az fl dds F r=(fl r).bind fun ds=>l5 (F (ds++dds)):=rfl
@[simp] theorem e_asB(b:Bool):ig (.bl b)=some b:=rfl
@[simp] theorem e_truB(b:Bool):gj (.bl b)=some b:=rfl
@[simp] theorem e_truL(ds:List D):gj (.lst ds)=some (! ds.isEmpty):=rfl
@[simp] theorem e_loop(m:List Md)(fi:FI)(ft:FT)(b:FS)(r:al):c7 m fi ft b r=fA m r (fi r) fun ds=>aB ft b ds r:=rfl
@[simp] theorem e_fSeq(k:D->Option (List D))(f:FE)(r:al):aF k f r=(f r).bind fun d=>bH (k d):=rfl
@[simp] theorem e_asL(ds:List D):bv (.lst ds)=some ds:=rfl
@[simp] theorem e_asT(ds:List D):bv (.tup ds)=some ds:=rfl
@[simp] theorem e_mkT(fl:al->Res (List D))(r:al):dv fl r=(fl r).bind fun ds=>(bH (sz ds)).bind fun ds=>.ok (.tup ds):=rfl
@[simp] theorem e_mkL(fl:al->Res (List D))(r:al):dN fl r=(fl r).bind fun ds=>(bH (sz ds)).bind fun ds=>.ok (.lst ds):=rfl
@[simp] theorem e_sz0:sz []=some []:=fm (by simp)
@[simp] theorem e_sz1(a:D):sz [a]=some [a]:=fm (by simp)
@[simp] theorem e_sz2(a b:D):sz [a,b]=some [a,b]:=fm (by simp)
@[simp] theorem e_sz3(a b c:D):sz [a,b,c]=some [a,b,c]:=fm (by simp)
@[simp] theorem e_lenL(ds:List D):lenD [.lst ds]=some (.int ds.length):=rfl
@[simp] theorem e_lenT(ds:List D):lenD [.tup ds]=some (.int ds.length):=rfl
@[simp] theorem e_lenK(ds:List (au×D)):lenD [.dic ds]=some (.int ds.length):=rfl
@[simp] theorem e_tupL(ds:List D):tupD [.lst ds]=some (.tup ds):=rfl
@[simp] theorem e_listL(ds:List D):iM [.lst ds]=some (.lst ds):=rfl
@[simp] theorem e_listT(ds:List D):iM [.tup ds]=some (.lst ds):=rfl
@[simp] theorem e_isNN:iG .non .non=some (.bl true):=rfl
@[simp] theorem e_isLN(ds:List D):iG (.lst ds) .non=some (.bl false):=rfl
@[simp] theorem e_isn1:fF .non .non=some (.bl false):=rfl
@[simp] theorem e_isn2(i:Int):fF (.int i) .non=some (.bl true):=rfl
@[simp] theorem e_isn3(ds:List D):fF (.tup ds) .non=some (.bl true):=rfl
@[simp] theorem e_valsD(kvs:List (au×D)):og (.dic kvs)=some (.lst (kvs.map (·.2))):=rfl
theorem d9{ds:List D}{i:Nat}{d:D}(h:ds[i]? = some d):aW (.tup ds) (nD i)=some d:=by have hl:i<ds.length:=(c_.mp h).1;show d6 ds (i:Int)=some d;unfold d6 fW;rw[if_pos (M_ i),if_pos (by omega)];simpa using h
theorem wo{ds:List D}{i:Nat}{d:D}(h:ds[i]? = some d):aW (.lst ds) (nD i)=some d:=by have hl:i<ds.length:=(c_.mp h).1;show d6 ds (i:Int)=some d;unfold d6 fW;rw[if_pos (M_ i),if_pos (by omega)];simpa using h
@[simp] theorem ixA_L0(d:D)(ds:List D):aW (.lst (d::ds)) (.int 0)=some d:=wo (i:=0) rfl
@[simp] theorem ixA_T0(d:D)(ds:List D):aW (.tup (d::ds)) (.int 0)=some d:=d9 (i:=0) rfl
theorem wF{kvs:List (au×D)}{k:Nat}{d:D}(h:bu kvs (kI k)=some d):aW (.dic kvs) (nD k)=some d:=h
theorem nM(l:List Nat)(k:Nat):(l.map nD).any (fun y=>dz y (nD k))=decide (k∈l):=by
 rw[OU,Kv,OG,decide_eq_true_iff];constructor
 .rintro⟨x,h1,h2⟩
  have:(((x:Nat):Int)==(k:Int))=true:=h2;have:=M6.mp (Mg this);subst this;exact h1
 .intro h;exact⟨k,h,by show(((k:Nat):Int)==(k:Int))=true;simp⟩
theorem n5(l:List Nat):(l.map nD).all ce=true:=by rw[LO];intro x hx;obtain⟨k,_,rfl⟩:=r_.mp hx;rfl
theorem CH(l:List Nat)(k:Nat):iH (nD k) (LN l)=some (.bl (decide (k∈l))):=by show(if ce (nD k)=true/\(l.map nD).all ce=true then some ((l.map nD).any fun y=>dz y (nD k))else none).map D.bl=_;rw[if_pos ⟨rfl,n5 l⟩,nM];rfl
theorem mH(l:List Nat)(k:Nat):cB (nD k) (LN l)=some (.bl (! decide (k∈l))):=by show(if ce (nD k)=true/\(l.map nD).all ce=true then some ((l.map nD).any fun y=>dz y (nD k))else none).map (fun b=>D.bl (! b))=_;rw[if_pos ⟨rfl,n5 l⟩,nM];rfl
theorem Jw(k:Nat):pI [nD k]=.ok (.bl true):=rfl
theorem Jv(k b:Nat):ng [nD k,nD b]=.ok (.bl (decide (k<b))):=by refine cm (B:=sG) (n:=2) ?_;unfold sG;refine br (bP ?_);rw[xK (aP (aj (d:=nD k) rfl ap) (Jw k))];exact ER rfl rfl (B6 k) rfl (qv k b)
theorem se{α:Type}(f:α->D)(l:List α):lenD [.tup (l.map f)]=some (nD l.length):=by show some (D.int ((l.map f).length:Int))=_;rw[l_]
theorem lG{α:Type}(f:α->D)(l:List α):lenD [.lst (l.map f)]=some (nD l.length):=by show some (D.int ((l.map f).length:Int))=_;rw[l_]
theorem yU{α:Type}(f:α->au×D)(l:List α):lenD [.dic (l.map f)]=some (nD l.length):=by show some (D.int ((l.map f).length:Int))=_;rw[l_]
theorem zl(n:Nat):eqD (nD n) (nD n)=some (.bl true):=by have e:=jR n n;rw[decide_eq_true rfl]at e;exact e
theorem xy(n:Nat):cT 0 n=(h_ n).map nD:=by unfold cT;refine KI fun i _=>?_;show D.int (0+(i:Int))=D.int (i:Int);rw[Int.zero_add]
theorem Hr(j:Int):jY [.int j]=if-(2^62)<=j/\j<2^62/\j.toNat<=sizeLine then some (.lst (cT 0 j.toNat))else none:=rfl
theorem rR{n:Nat}(h:n<=1000):jY [nD n]=some (LN (h_ n)):=by
 have hs:(n:Int).toNat<=sizeLine:=by rw[LU,K1];omega
 rw[Hr,if_pos ⟨by omega,by omega,hs⟩,LU,xy]
theorem FA(j:Int):da [.int j]=if-(2^62)<=j/\j<2^62 then some (cT 0 j.toNat)else none:=rfl
theorem lq{n:Nat}(h:n<=1000):da [nD n]=some ((h_ n).map nD):=by rw[FA,if_pos ⟨by omega,by omega⟩,LU,xy]
theorem lv{fl:al->Res (List D)}{k:List D->Option (List D)}{r:al}{ds es:List D}(h1:fl r=.ok ds)(h2:k ds=some es):dy k fl r=.ok es:=by unfold dy;rw[h1,bind_ok,h2];rfl
theorem Ax{p:Nat->Bool}:∀(l:List Nat),l.find? p=(l.filter p).head?
|[]=>rfl
|a::l=>by rw[KB,K7];cases h:p a with
 |true=>simp
 |false=>simpa using Ax l
theorem wu(o:Option Nat)(x:Nat):eqD (oD o) (nD x)=some (.bl (decide (o=some x))):=by cases o with
|none=>unfold eqD oD;rw[eqB_non_int];simp
|some k=>show eqD (nD k) (nD x)=_;rw[jR];simp
def own(owns:List (Option Nat))(h:Nat):Option Nat:=(owns[h]?).join
theorem xm{owns:List (Option Nat)}{h:Nat}(hh:h<owns.length):(owns.map oD)[h]? = some (oD (own owns h)):=by rw[x_,d_ hh];unfold own;rw[d_ hh];rfl
theorem AC{row:List Nat}{rest:List (List Nat)}:lP [WD (row::rest)]=.ok (nD row.length):=by refine cm (B:=sS) (n:=1) ?_;unfold sS;exact br (bP (bV (aj (av (a:=WD (row::rest)) (b:=.int 0) rfl rfl (ixA_T0 _ _)) ap) (se _ _)))
theorem Hf{row things:List Nat}(h:∃x∈row,x∈things)(hl:row.length<=1000):jG [TN row,LN things]=.ok (nD (Rg.best row things)):=by
 refine cm (B:=sQ) (n:=2) ?_;unfold sQ;have hc:(cG 1 [1] (aF bv (gv 0)) (aE 0) (aN (f2 (gv 0) (gv 1) iH)) (gv 0)) [some (TN row),some (LN things)]=.ok (LN (row.filter fun x=>decide (x∈things))):=by
  refine f8 nD (fun x=>decide (x∈things)) nD (l:=row) rfl hl fun a _=>⟨[some (nD a),some (LN things)],rfl,?_,fun _=>rfl⟩
  exact bN (av (a:=nD a) (b:=LN things) rfl rfl (CH _ _))
 have hb:∃t,(row.filter fun x=>decide (x∈things))=Rg.best row things::t:=by unfold Rg.best;rw[Ax];cases e:row.filter fun x=>decide (x∈things)with
 |nil=>obtain⟨x,h1,h2⟩:=h;have:x∈row.filter fun x=>decide (x∈things):=w_.mpr ⟨h1,by simpa using h2⟩;rw[e]at this;cases this
 |cons a t=>exact⟨t,rfl⟩
 obtain⟨t,ht⟩:=hb;rw[ht]at hc;exact br (bP (av hc (b:=.int 0) rfl (ixA_L0 _ _)))
abbrev iu(pre:List Nat):D:=.dic ((pre.map fun k=>(k,D.bl true)).map fun p=>(kI p.1,p.2))
theorem yh(b:Nat)(num:D):∀(suf pre:List Nat)(x y:Option D),(pre++suf).Nodup->(∀k∈suf,k<b)->(pre++suf).length<=1000 ->∃x' y',aB (gP (cS (aE 3) (cS (aE 4) gH))) uC (df pre.length (suf.map nD)) [some num,some (nD b),some (iu pre),x,y]=.nx [some num,some (nD b),some (iu (pre++suf)),x',y']
|[],pre,x,y,_,_,_=>⟨x,y,by rw[KA];exact fg⟩
|k::suf,pre,x,y,hn,hb,hl=>by
  have hk:k∉pre:=fun z=>(Lm.mp hn).2.2 k z k j_ rfl;obtain⟨x',y',ih⟩:=yh b num suf (pre++[k]) (some (nD pre.length)) (some (nD k)) (by simpa using hn) (fun j hj=>hb j (k_ _ hj)) (by simpa using hl);refine⟨x',y',?_⟩;rw[show(pre++[k]).length=pre.length+1 by simp]at ih;rw[show pre++k::suf=(pre++[k])++suf by simp,<-ih];show aB _ _ (.tup [.int ((pre.length:Nat):Int),nD k]::df (pre.length+1) (suf.map nD)) _=_;refine eR (r1:=[some num,some (nD b),some (iu pre),some (nD pre.length),some (nD k)]) rfl ?_;have c2:iH (nD k) (iu pre)=some (.bl false):=by
   show(some (cX _ (kI k))).map D.bl=_;rw[xj,Kx];have:decide (k∈pre.map ((fun p:Nat×D=>p.1)∘fun k=>(k,D.bl true)))=false:=by rw[decide_eq_false_iff_not];simpa[Oh]using hk
   rw[this];rfl
  have c3:dL (iu pre) (nD k) (.bl true)=some (iu (pre++[k])):=by show(if _ then some (D.dic (cI _ (kI k) (.bl true)))else none)=_;rw[if_pos (by rw[l_,l_,K1];simp at hl;omega),Hb _ _ _ (by rw[Kx];simpa[Oh]using hk)];simp
  have c1:decide (k<b)=true:=decide_eq_true (hb k j_);unfold uC;have hif:(gq (cZ (cE (az (ag (gv 4) (ag (gv 1) ae)) [] ng))) (aN (f2 (gv 4) (gv 2) iH))) [some num,some (nD b),some (iu pre),some (nD pre.length),some (nD k)]=.ok false:=by have h0:=Jv k b;rw[c1]at h0;rw[gp (jA (gL (b:=true) (aP (aj (d:=nD k) rfl (aj (d:=nD b) rfl ap)) h0) rfl))];exact bN (av (a:=nD k) (b:=iu pre) rfl rfl c2)
  refine(ar (k9 hif)).trans ?_;exact ar (j9 (d:=iu pre) (k:=nD k) rfl rfl rfl c3)
theorem J5{l:List Nat}{b:Nat}(hn:l.Nodup)(hb:∀k∈l,k<b)(hl:l.length<=1000):pL [LN l,nD b]=.ok (nD l.length):=by obtain⟨x',y',h⟩:=yh b (LN l) l [] none none hn hb hl;refine cm (B:=tx) (n:=5) ?_;unfold tx;refine(ar (r':=[some (LN l),some (nD b),some (iu []),none,none]) rfl).trans ?_;refine(ar ((eU (ds:=df 0 (l.map nD)) rfl).trans h)).trans ?_;exact br (bP (bV (aj (d:=LN l) rfl ap) (lG _ _)))
theorem IH{l:List Nat}{n:Nat}(hn:l.Nodup)(hb:∀k∈l,k<n)(h8:l.length<=1000):pW [LN l,nD n]=.ok (.bl true):=by refine cm (B:=tM) (n:=2) ?_;unfold tM;exact br (bP (av (a:=nD l.length) (b:=nD l.length) (aP (aj (d:=LN l) rfl (aj (d:=nD n) rfl ap)) (J5 hn hb h8)) (bV (aj (d:=LN l) rfl ap) (lG _ _)) (zl _)))
theorem FB{l:List Nat}{n:Nat}(hn:l.Nodup)(hb:∀k∈l,k<n)(hl:l.length=n)(h8:n<=1000):qd [LN l,nD n]=.ok (.bl true):=by refine cm (B:=uB) (n:=2) ?_;unfold uB;subst hl;refine br (bP ?_);rw[xK (av (a:=nD l.length) (b:=nD l.length) (bV (aj (d:=LN l) rfl ap) (lG _ _)) rfl (zl _))];exact aP (aj (d:=LN l) rfl (aj (d:=nD l.length) rfl ap)) (IH hn hb h8)
theorem JY{rz:List (List Nat)}(h:rz.length<=1000):jH [WD rz,.non]=.ok (LN (h_ rz.length)):=by refine cm (B:=lH) (n:=2) ?_;unfold lH;refine br ((k9 (b:=true) rfl).trans ?_);rw[if_pos rfl];exact br (bP (bV (ds:=[nD rz.length]) (aj (bV (aj (d:=WD rz) rfl ap) (se _ _)) ap) (rR h)))
theorem Iw{rz:List (List Nat)}{l:List Nat}(hn:l.Nodup)(hb:∀k∈l,k<rz.length)(hl:l.length=rz.length)(h8:rz.length<=1000):jH [WD rz,LN l]=.ok (LN l):=by refine cm (B:=lH) (n:=2) ?_;unfold lH;refine(ar (r':=[some (WD rz),some (LN l)]) ((k9 (b:=false) rfl).trans rfl)).trans ?_;refine(ar (r':=[some (WD rz),some (LN l)]) ((k9 (b:=false) (jA (b:=true) (gL (aP (aj (d:=LN l) rfl (aj (bV (aj (d:=WD rz) rfl ap) (se _ _)) ap)) (FB hn hb hl h8)) rfl))).trans rfl)).trans ?_;exact br (bP (bV (aj (d:=LN l) rfl ap) rfl))
theorem yi(owns:List (Option Nat))(line:List Nat)(x:Nat):∀(l:List Nat)(y:Option D),(∀h∈l,h<owns.length) ->(match l.find? (fun h=>decide (own owns h=some x))with
  |some h=>aB (aE 3) ni (l.map nD) [some (OD owns),some (LN line),some (nD x),y]=.rt (nD h)
  |none=>∃y',aB (aE 3) ni (l.map nD) [some (OD owns),some (LN line),some (nD x),y]=.nx [some (OD owns),some (LN line),some (nD x),y'])
|[],y,_=>⟨y,fg⟩
|h::l,y,hl=>by have c:(aN (f2 (f2 (gv 0) (gv 3) aW) (gv 2) eqD)) [some (OD owns),some (LN line),some (nD x),some (nD h)]=.ok (decide (own owns h=some x)):=bN (av (av (a:=OD owns) (b:=nD h) rfl rfl (d9 (xm (hl h j_)))) (b:=nD x) rfl (wu _ _));rw[KB];cases e:decide (own owns h=some x)with
 |true=>rw[e]at c;refine C8 (r1:=[some (OD owns),some (LN line),some (nD x),some (nD h)]) rfl ?_;exact br ((cW c).trans (br (bP (d:=nD h) rfl)))
 |false=>rw[e]at c;have ih:=yi owns line x l (some (nD h)) fun k hk=>hl k (k_ _ hk);have st:aB (aE 3) ni ((h::l).map nD) [some (OD owns),some (LN line),some (nD x),y]=aB (aE 3) ni (l.map nD) [some (OD owns),some (LN line),some (nD x),some (nD h)]:=eR (r1:=[some (OD owns),some (LN line),some (nD x),some (nD h)]) rfl ((ar (bU c)).trans rfl);rw[st];exact ih
theorem zJ{owns:List (Option Nat)}{line:List Nat}{x:Nat}(hl:∀h∈line,h<owns.length):kj [OD owns,LN line,nD x]=.ok (oD (line.find? fun h=>decide (own owns h=some x))):=by refine cm (B:=tR) (n:=4) ?_;unfold tR;have h:=yi owns line x line none hl;cases e:line.find? fun h=>decide (own owns h=some x)with
|some k=>rw[e]at h;exact br ((eU (ds:=line.map nD) rfl).trans h)
|none=>rw[e]at h;obtain⟨y',h⟩:=h;exact(ar ((eU (ds:=line.map nD) rfl).trans h)).trans (br (bP (d:=.non) rfl))
theorem wE(o:Option Nat):iG (oD o) .non=some (.bl (decide (o=none))):=by cases o <;> rfl
theorem Ja{owns:List (Option Nat)}{line:List Nat}{x:Nat}(hl:∀h∈line,h<owns.length)(hne:line≠[]):nu [OD owns,LN line,nD x]=.ok (nD ((line.find? fun h=>decide (own owns h=some x)).getD (line.headD 0))):=by refine cm (B:=uN) (n:=4) ?_;unfold uN;refine(ar (aZ (aP (aj (d:=OD owns) rfl (aj (d:=LN line) rfl (aj (d:=nD x) rfl ap))) (zJ hl)))).trans ?_;refine br (bP ?_);have c:=bN (av (f:=gv 3) (f':=fun _=>Res.ok D.non) (r:=[some (OD owns),some (LN line),some (nD x),some (oD (line.find? fun h=>decide (own owns h=some x)))]) rfl rfl (wE (line.find? fun h=>decide (own owns h=some x))));cases e:line.find? fun h=>decide (own owns h=some x)with
|some k=>rw[e,decide_eq_false (by simp)]at c;exact(qB c).trans rfl
|none=>rw[e,decide_eq_true rfl]at c;refine(qC c).trans ?_;cases line with
 |nil=>exact absurd rfl hne
 |cons a l=>exact av (a:=LN (a::l)) (b:=.int 0) rfl rfl (ixA_L0 _ _)
abbrev KD(kvs:List (Nat×Nat)):D:=.dic (kvs.map fun p=>(kI p.1,nD p.2))
abbrev FD(l:List Nat)(f:Nat->Nat):List (Nat×Nat):=l.map fun h=>(h,f h)
theorem qY{a b:Nat}(h:kI a=kI b):a=b:=M6.mp (Qo h)
theorem sr:∀{kvs:List (Nat×Nat)}{h:Nat}{f:Nat->Nat},(∀p∈kvs,p.2=f p.1)->h∈kvs.map (·.1)->bu (kvs.map fun p=>(kI p.1,nD p.2)) (kI h)=some (nD (f h))
|[],_,_,_,hh=>by cases hh
|p::kvs,h,f,hf,hh=>by
  by_cases e:p.1=h
  .have:=hf p j_;subst e;simp[bu,KB,this]
  .have hne:¬ kI p.1=kI h:=fun z=>e (qY z);have hh':h∈kvs.map (·.1):=by
    rcases z_.mp hh with z|z
    .exact absurd z.symm e
    .exact z
   have ih:=sr (f:=f) (fun q hq=>hf q (k_ _ hq)) hh';have e1:bu ((p::kvs).map fun p=>(kI p.1,nD p.2)) (kI h)=bu (kvs.map fun p=>(kI p.1,nD p.2)) (kI h):=by simp only[bu,B_,KB];rw[decide_eq_false hne]
   rw[e1];exact ih
theorem rP(l:List Nat)(f:Nat->Nat):(FD l f).map (·.1)=l:=by simp[FD,Oh]
theorem mC{l:List Nat}{f:Nat->Nat}{h:Nat}(hh:h∈l):aW (KD (FD l f)) (nD h)=some (nD (f h)):=wF (sr (f:=f) (fun p hp=>by obtain⟨x,_,rfl⟩:=r_.mp hp;rfl) (by rw[rP];exact hh))
def putN(kvs:List (Nat×Nat))(k v:Nat):List (Nat×Nat):=if k∈kvs.map (·.1)then kvs.map fun p=>if p.1=k then(p.1,v)else p else kvs++[(k,v)]
theorem nK(kvs:List (Nat×Nat))(k:Nat):((kvs.map fun p=>(kI p.1,nD p.2)).any fun kv=>decide (kv.1=kI k))=decide (k∈kvs.map (·.1)):=by
 rw[OU,Kv,OG,decide_eq_true_iff,r_];constructor
 .rintro⟨p,h1,h2⟩
  simp only[Ms,decide_eq_true_eq]at h2;exact⟨p,h1,qY h2⟩
 .rintro⟨p,h1,rfl⟩
  exact⟨p,h1,by simp⟩
theorem xu(kvs:List (Nat×Nat))(k v:Nat):cI (kvs.map fun p=>(kI p.1,nD p.2)) (kI k) (nD v)=(putN kvs k v).map fun p=>(kI p.1,nD p.2):=by
 unfold cI putN;rw[nK];by_cases h:k∈kvs.map (·.1)
 .rw[decide_eq_true h,if_pos rfl,if_pos h,Kx,Kx];refine KI fun p _=>?_;simp only[Ms];by_cases e:p.1=k
  .rw[if_pos (by rw[e]),if_pos e]
  .rw[if_neg (fun z=>e (qY z)),if_neg e]
 .rw[decide_eq_false h,if_neg i_,if_neg h,KJ];rfl
theorem Iq(kvs:List (Nat×Nat))(k v j:Nat):j∈(putN kvs k v).map (·.1)↔j∈kvs.map (·.1)\/j=k:=by
 unfold putN;by_cases h:k∈kvs.map (·.1)
 .rw[if_pos h,Kx];have:((fun p:Nat×Nat=>p.1)∘fun p=>if p.1=k then(p.1,v)else p)=fun p=>p.1:=by funext p;simp only[Ms];split <;> rfl
  rw[this];constructor
  .exact .inl
  .rintro(z|rfl)
   .exact z
   .exact h
 .rw[if_neg h];simp
theorem Hc{kvs:List (Nat×Nat)}{k v:Nat}{f:Nat->Nat}(h:∀p∈kvs,p.2=f p.1)(hv:v=f k):∀p∈putN kvs k v,p.2=f p.1:=by
 intro p hp;unfold putN at hp;split at hp
 .obtain⟨q,h1,rfl⟩:=r_.mp hp;split
  .rename_i e;simp only;rw[e];exact hv
  .exact h q h1
 .rcases KU.mp hp with z|z
  .exact h p z
  .rw[t_.mp z];exact hv
theorem q8{kvs:List (Nat×Nat)}{k v:Nat}(hl:kvs.length<=1000):dL (KD kvs) (nD k) (nD v)=some (KD (putN kvs k v)):=by show(if (kvs.map fun p=>(kI p.1,nD p.2)).length<sizeLine then some (D.dic (cI _ (kI k) (nD v)))else none)=_;rw[if_pos (by rw[l_,K1];omega),xu]
structure GI(t:Nat->Nat)(kvs:List (Nat×Nat))(L:List Nat):Prop where
 nd:(kvs.map (·.1)).Nodup
 val:∀p∈kvs,p.2=t p.1
 key:∀h,h∈kvs.map (·.1)↔h∈L
theorem Fu{kvs:List (Nat×Nat)}{k v:Nat}(h:(kvs.map (·.1)).Nodup):((putN kvs k v).map (·.1)).Nodup:=by
 unfold putN;split
 .rw[Kx];have:((fun p:Nat×Nat=>p.1)∘fun p=>if p.1=k then(p.1,v)else p)=fun p=>p.1:=by funext p;simp only[Ms];split <;> rfl
  rw[this];exact h
 .rename_i hk;rw[KJ];refine Lm.mpr ⟨h,by simp,fun a ha b hb=>?_⟩;simp at hb
  rintro rfl
  exact hk (hb▸ha)
theorem GI.put{t:Nat->Nat}{kvs:List (Nat×Nat)}{L:List Nat}(g:GI t kvs L)(k:Nat):GI t (putN kvs k (t k)) (L++[k]):=⟨Fu g.nd,Hc g.val rfl,fun h=>by rw[Iq,g.key];simp⟩
theorem GI.len{t:Nat->Nat}{kvs:List (Nat×Nat)}{L line:List Nat}(g:GI t kvs L)(hs:∀h∈L,h∈line):kvs.length<=line.length:=by have:=Rg.iW (m:=line) g.nd fun h hh=>hs h ((g.key h).mp hh);simpa using this
theorem GI.congr{t t':Nat->Nat}{kvs:List (Nat×Nat)}{L:List Nat}(g:GI t kvs L)(h:∀x∈L,t' x=t x):GI t' kvs L:=⟨g.nd,fun p hp=>by rw[g.val p hp,h p.1 ((g.key _).mp (r_.mpr ⟨p,hp,rfl⟩))],g.key⟩
theorem GI.mem{t:Nat->Nat}{kvs:List (Nat×Nat)}{L M:List Nat}(g:GI t kvs L)(h:∀x,x∈L↔x∈M):GI t kvs M:=⟨g.nd,g.val,fun x=>(g.key x).trans (h x)⟩
theorem GI.nil(t:Nat->Nat):GI t [] []:=⟨by simp,fun _ hp=>(nomatch hp),fun h=>by simp⟩
theorem kh{α:Type}(l:List α):l.filter (fun _=>true)=l:=Pr.mpr fun _ _=>rfl
theorem GI.full{t:Nat->Nat}{kvs:List (Nat×Nat)}{L:List Nat}{n:Nat}(g:GI t kvs L)(h:∀x,x∈L↔x<n):kvs.length=n:=by have h1:=g.len (line:=h_ n) fun x hx=>s_.mpr ((h x).mp hx);have h2:=Rg.iW (l:=h_ n) (m:=kvs.map (·.1)) Lz fun x hx=>(g.key x).mpr ((h x).mpr (s_.mp hx));simp at h1 h2;omega
def Wr(rz:List (List Nat))(h:Nat):List Nat:=(rz[h]?).getD []
theorem xz{rz:List (List Nat)}{h:Nat}(hh:h<rz.length):(rz.map TN)[h]? = some (TN (Wr rz h)):=by rw[x_];unfold Wr;rw[d_ hh];rfl
theorem zb{kvs:List (Nat×Nat)}{k v:Nat}(h:k∉kvs.map (·.1)):putN kvs k v=kvs++[(k,v)]:=by unfold putN;rw[if_neg h]
theorem A7{a:Nat->Nat}{kvs:List (Nat×Nat)}{L:List Nat}{n:Nat}(g:GI a kvs L)(h:∀x,x∈L↔x<n)(h8:n<=60):lN [KD kvs]=.ok (TN ((h_ n).map a)):=by have hl:=g.full h;refine cm (B:=tN) (n:=1) ?_;unfold tN;refine br (bP (bV (aj (f8 (l:=h_ n) nD (fun _=>true) (fun h=>nD (a h)) (lv (ds:=[nD n]) (aj (bV (aj (d:=KD kvs) rfl ap) (by rw[yU,hl])) ap) (lq (by omega))) (by simp;omega) fun x hx=>⟨[some (nD x),some (KD kvs)],rfl,rfl,fun _=>av (a:=KD kvs) (b:=nD x) rfl rfl (wF (sr g.val ((g.key x).mpr ((h x).mpr (s_.mp hx)))))⟩) ap) ?_));rw[kh,e_tupL];show some (D.tup _)=some (D.tup _);rw[Kx];rfl
abbrev bW(t:Nat->Nat)(h:Nat):D:=.tup [nD h,nD (t h)]
abbrev aQ(t:Nat->Nat)(ring:List Nat):D:=.tup (ring.map (bW t))
def iR(t:Nat->Nat):Option (List Nat)->D
|some ring=>aQ t ring
|none=>.non
section
variable{t f:Nat->Nat}{line:List Nat}{first:Nat}(hcl:∀h∈line,f h∈line)(hn:line.length<=60)
include hcl hn
theorem Fy:∀(j:Nat)(ring:List Nat)(hand:Nat),hand∈line->ring.length<=line.length->line.length<j+ring.length ->∃ring' hand',dH fw tH Bg j [some (nD first),some (KD (FD line t)),some (KD (FD line f)),some (.lst (ring.map (bW t))),some (nD hand)]=.nx [some (nD first),some (KD (FD line t)),some (KD (FD line f)),some (.lst (ring'.map (bW t))),some (nD hand')] /\∀k,line.length<k+ring.length->Rg.d8 f line.length first k ring hand=if hand'=first then some ring' else none:=by
 intro j
 induction j with
|zero=>intro ring hand _ h1 h2;omega
|succ j ih=>
  intro ring hand hh h1 h2;have c1:(aN (f2 (gv 4) (gv 0) jK)) [some (nD first),some (KD (FD line t)),some (KD (FD line f)),some (.lst (ring.map (bW t))),some (nD hand)]=.ok (decide (first<hand)):=bN (av (a:=nD hand) (b:=nD first) rfl rfl (n6 _ _));have c2:(aN (f2 (fC (ag (gv 3) ae) lenD) (fC (ag (gv 1) ae) lenD) jI)) [some (nD first),some (KD (FD line t)),some (KD (FD line f)),some (.lst (ring.map (bW t))),some (nD hand)]=.ok (decide (ring.length<line.length)):=by refine bN (av (a:=nD ring.length) (b:=nD line.length) (bV (aj rfl ap) (lG _ _)) (bV (aj (d:=KD (FD line t)) rfl ap) ?_) (qv _ _));rw[yU,l_]
  by_cases hc:first<hand/\ring.length<line.length
  .have cq:tH [some (nD first),some (KD (FD line t)),some (KD (FD line f)),some (.lst (ring.map (bW t))),some (nD hand)]=.ok true:=by rw[decide_eq_true hc.1]at c1;rw[decide_eq_true hc.2]at c2;exact(qz c1).trans c2
   obtain⟨ring',hand',i1,i2⟩:=ih (ring++[hand]) (f hand) (hcl hand hh) (by simp;omega) (by simp;omega);refine⟨ring',hand',?_,fun k hk=>?_⟩
   .rw[oC cq (r':=[some (nD first),some (KD (FD line t)),some (KD (FD line f)),some (.lst ((ring++[hand]).map (bW t))),some (nD (f hand))]) ?_]
    .exact i1
    .refine(ar (gI (d:=.lst (ring.map (bW t))) (ds:=[bW t hand]) rfl rfl (aj (fT (aj (d:=nD hand) rfl (aj (av (a:=KD (FD line t)) (b:=nD hand) rfl rfl (mC hh)) ap)) (by simp)) ap) (ka (by simp;omega)))).trans ?_;refine(ar (aZ (d:=nD (f hand)) (av (a:=KD (FD line f)) (b:=nD hand) rfl rfl (mC hh)))).trans ?_;show Out.nx [_,_,_,some (D.lst (ring.map (bW t)++[bW t hand])),_]=_;rw[KJ];rfl
   .cases k with
   |zero=>omega
   |succ k=>unfold Rg.d8;rw[if_pos hc];exact i2 k (by simp;omega)
  .refine⟨ring,hand,oB ?_,fun k hk=>?_⟩
   .by_cases hc1:first<hand
    .rw[decide_eq_true hc1]at c1;rw[decide_eq_false (fun z=>hc ⟨hc1,z⟩)]at c2;exact(qz c1).trans c2
    .rw[decide_eq_false hc1]at c1;exact wl c1
   .cases k with
   |zero=>omega
   |succ k=>unfold Rg.d8;rw[if_neg hc]
theorem Hg(hf:first∈line):pq [nD first,KD (FD line t),KD (FD line f)]=.ok (iR t (Rg.cf f line.length first)):=by
 refine cm (B:=sR) (n:=5) ?_;unfold sR;have hpos:=MC hf;obtain⟨ring',hand',h1,h2⟩:=Fy (t:=t) (first:=first) hcl hn 64 [first] (f first) (hcl first hf) (by show 1<=_;omega) (by simp;omega);refine(ar (aZ (d:=.lst ([first].map (bW t))) (fR (aj (fT (aj (d:=nD first) rfl (aj (av (a:=KD (FD line t)) (b:=nD first) rfl rfl (mC hf)) ap)) (by simp)) ap) (by simp)))).trans ?_;refine(ar (aZ (d:=nD (f first)) (av (a:=KD (FD line f)) (b:=nD first) rfl rfl (mC hf)))).trans ?_;refine(ar h1).trans ?_;have hr:Rg.cf f line.length first=if hand'=first then some ring' else none:=h2 _ (by simp;omega)
 rw[hr];have c:=bN (av (f:=gv 4) (f':=gv 0) (r:=[some (nD first),some (KD (FD line t)),some (KD (FD line f)),some (.lst (ring'.map (bW t))),some (nD hand')]) (a:=nD hand') (b:=nD first) rfl rfl (jR hand' first));by_cases e:hand'=first
 .rw[decide_eq_true e]at c;rw[if_pos e];exact br (bP ((qC c).trans (bV (aj (d:=.lst (ring'.map (bW t))) rfl ap) rfl)))
 .rw[decide_eq_false e]at c;rw[if_neg e];exact br (bP ((qB c).trans rfl))
end
structure Snd(rz:List (List Nat))(owns:List (Option Nat))(s:Rg.S):Prop where
 ok:Rg.Ok (Wr rz) (own owns) s
 inr:∀h∈s.line,h<rz.length
 ino:∀h∈s.line,h<owns.length
 wid:∀h∈s.line,(Wr rz h).length<=1000
 nl:s.line.length<=60
 nt:s.things.length<=60
section
variable{rz:List (List Nat)}{owns:List (Option Nat)}{s:Rg.S}
theorem Snd.tg(S:Snd rz owns s){h:Nat}(hh:h∈s.line):jG [TN (Wr rz h),LN s.things]=.ok (nD (Rg.bj (Wr rz) s h)):=Hf (S.ok.some_thing hh) (S.wid h hh)
theorem Snd.pts(S:Snd rz owns s){x h:Nat}(hh:h∈s.line):nu [OD owns,LN s.line,nD x]=.ok (nD (Rg.pt (own owns) s x)):=Ja S.ino (KP hh)
abbrev tS(rz:List (List Nat))(s:Rg.S):Nat->Nat:=Rg.bj (Wr rz) s
abbrev fS(rz:List (List Nat))(owns:List (Option Nat))(s:Rg.S):Nat->Nat:=Rg.nxt (Wr rz) (own owns) s
theorem yE(S:Snd rz owns s):∀(suf pre:List Nat)(y:Option D),pre++suf=s.line ->
  ∃y',aB (aE 6) Bq (suf.map nD) [some (WD rz),some (OD owns),some (LN s.line),some (LN s.things),some (KD (FD pre (tS rz s))),some (KD (FD pre (fS rz owns s))),y,none]
   = .nx [some (WD rz),some (OD owns),some (LN s.line),some (LN s.things),some (KD (FD s.line (tS rz s))),some (KD (FD s.line (fS rz owns s))),y',none]
|[],pre,y,e=>⟨y,by rw[KA]at e;rw[e];exact fg⟩
|h::suf,pre,y,e=>by
  obtain⟨y',ih⟩:=yE S suf (pre++[h]) (some (nD h)) (by simpa using e);have hh:h∈s.line:=by rw[<-e];simp
  have hn:=S.ok.nl;rw[<-e]at hn;have hk:h∉pre:=fun z=>(Lm.mp hn).2.2 h z h j_ rfl;have hpl:pre.length<=1000:=by have:=S.nl;rw[<-e]at this;simp at this;omega
  refine⟨y',?_⟩;rw[<-ih];refine eR (r1:=[some (WD rz),some (OD owns),some (LN s.line),some (LN s.things),some (KD (FD pre (tS rz s))),some (KD (FD pre (fS rz owns s))),some (nD h),none]) rfl ?_;have c1:dL (KD (FD pre (tS rz s))) (nD h) (nD (tS rz s h))=some (KD (FD (pre++[h]) (tS rz s))):=by rw[q8 (by simpa using hpl),zb (by rw[rP];exact hk)];unfold FD;rw[KJ];rfl
  have c2:dL (KD (FD pre (fS rz owns s))) (nD h) (nD (fS rz owns s h))=some (KD (FD (pre++[h]) (fS rz owns s))):=by rw[q8 (by simpa using hpl),zb (by rw[rP];exact hk)];unfold FD;rw[KJ];rfl
  refine(ar (j9 (d:=KD (FD pre (tS rz s))) (k:=nD h) (v:=nD (tS rz s h)) rfl (aP (aj (av (a:=WD rz) (b:=nD h) rfl rfl (d9 (xz (S.inr h hh)))) (aj (d:=LN s.things) rfl ap)) (S.tg hh)) rfl c1)).trans ?_;refine(ar (j9 (d:=KD (FD pre (fS rz owns s))) (k:=nD h) (v:=nD (fS rz owns s h)) rfl (aP (aj (d:=OD owns) rfl (aj (d:=LN s.line) rfl (aj (av (a:=KD (FD (pre++[h]) (tS rz s))) (b:=nD h) rfl rfl (mC (by simp))) ap))) (S.pts hh)) rfl c2)).trans ?_;rfl
theorem rQ{α:Type}(t:Nat->Nat)(f:α->Option (List Nat)):∀(l:List α),(((l.map f).filter Ro).map (iR t))=(l.filterMap f).map (aQ t)
|[]=>rfl
|a::l=>by rw[B_,K7,K4];cases e:f a with
 |none=>simpa using rQ t f l
 |some r=>simpa[iR]using rQ t f l
theorem Jr(t:Nat->Nat)(h:Nat):jx (bW t h)=some [(h:Int),(t h:Int)]:=rfl
theorem zt(t:Nat->Nat):∀(ring:List Nat),iw (ring.map (bW t))=some (ring.map fun h:Nat=>[(h:Int),(t h:Int)])
|[]=>rfl
|h::ring=>by show(jx (bW t h)).bind _=_;rw[Jr,zt t ring];rfl
def cV(t:Nat->Nat)(r:List Nat):List (List Int):=r.map fun h:Nat=>[(h:Int),(t h:Int)]
def ii(t:Nat->Nat)(rs:List (List Nat)):Prop:=rs.Pairwise fun a b=>cC (cV t b) (cV t a)=false
theorem yR{t:Nat->Nat}:∀{a b:List Nat},cV t a=cV t b->a=b
|[],[],_=>rfl
|[],_::_,h=>nomatch h
|_::_,[],h=>nomatch h
|x::a,y::b,h=>by
  unfold cV at h;rw[B_,B_]at h;injection h with h1 h2
  injection h1 with h3 _
  have:=yR (t:=t) h2;rw[this,M6.mp h3]
theorem E2{t:Nat->Nat}{R U:List (List Nat)}(p:R.Perm U)(h1:ii t R)(h2:ii t U):R=U:=A4 (fun a b x y=>yR (zW _ _ y x)) p h1 h2
theorem zF(t:Nat->Nat):∀(rs:List (List Nat)),(∀r∈rs,r≠[])->jC (rs.map (aQ t))=some (rs.map (cV t))
|[],_=>rfl
|r::rs,h=>by have e:=zF t rs fun x hx=>h x (k_ _ hx);have hr:=h r j_;cases r with
 |nil=>exact absurd rfl hr
 |cons a r=>show(iw ((a::r).map (bW t))).bind _=_;rw[zt,e];rfl
theorem so{α β:Type}(f:α->β){l:List α}{i:Nat}(h:i<l.length)(x:β)(y:α):(l.map f).getD i x=f (l.getD i y):=by simp[List.getD,d_ h]
theorem AE(t:Nat->Nat)(rs:List (List Nat))(h:∀r∈rs,r≠[])(hl:rs.length<64):∃rs':List (List Nat),rs'.Perm rs/\ii t rs'/\mq [.lst (rs.map (aQ t))]=some (.lst (rs'.map (aQ t))):=by
 let c:Nat->Nat->Bool:=fun i j=>ca ((rs.map (cV t)).getD i []) ((rs.map (cV t)).getD j []);refine⟨(gC rs.length c).map fun i=>rs.getD i [],?_,?_,?_⟩
 .refine((tv rs.length c).map fun i=>rs.getD i []).trans ?_;have e2:(h_ rs.length).map (fun i=>rs.getD i [])=rs:=by
   refine MN fun i=>?_;rw[x_];by_cases hi:i<rs.length
   .rw[Ld hi];simp[d_ hi]
   .rw[KH (by simp;omega),KH (by omega)];rfl
  rw[e2]
 .unfold ii;rw[Og];have:=Jz (n:=rs.length) (c:=c) (fun i j=>by show ca _ _=true->ca _ _=false;rw[kb,kb];exact zX _ _) (fun i j k=>by show ca _ _=false->ca _ _=false->ca _ _=false;rw[kb,kb,kb];exact AK _ _ _);refine this.imp_of_mem fun{i j} hi hj h=>?_;have h:ca ((rs.map (cV t)).getD j []) ((rs.map (cV t)).getD i [])=false:=h;rw[so _ (m7 hj) [] [],so _ (m7 hi) [] [],kb]at h;exact h
 .show(jC (rs.map (aQ t))).bind _=_;rw[zF t rs h];show(if _ then _ else _)=_;rw[if_pos (by rw[l_];exact hl)];unfold jt;rw[Kx,l_];congr 2;refine KI fun i hi=>?_;exact so (aQ t) (m7 hi) .non []
theorem Ir{W:Nat->List Nat}{O:Nat->Option Nat}:∀r∈Rg.d7 W O s,r≠[]:=by intro r hr;obtain⟨x,_,h2⟩:=KY.mp hr;exact Rg.rT h2
theorem Hl(t:Nat->Nat)(o:Option (List Nat)):fF (iR t o) .non=some (.bl o.isSome):=by cases o <;> rfl
theorem Ix(S:Snd rz owns s):∃rs:List (List Nat),rs.Perm (Rg.d7 (Wr rz) (own owns) s)/\ii (tS rz s) rs/\pY [WD rz,OD owns,LN s.line,LN s.things]=.ok (.lst (rs.map (aQ (tS rz s)))):=by
 obtain⟨y',hloop⟩:=yE S s.line [] none rfl;have hcl:∀h∈s.line,fS rz owns s h∈s.line:=fun h hh=>Rg.mL (KP hh);have hlen:(Rg.d7 (Wr rz) (own owns) s).length<=s.line.length:=M7 _ _;obtain⟨rs',hp,hu,hs⟩:=AE (tS rz s) (Rg.d7 (Wr rz) (own owns) s) Ir (by have:=S.nl;omega);refine⟨rs',hp,hu,cm (B:=tZ) (n:=8) ?_⟩;unfold tZ;refine(ar (r':=[some (WD rz),some (OD owns),some (LN s.line),some (LN s.things),some (KD (FD [] (tS rz s))),none,none,none]) rfl).trans ?_;refine(ar (r':=[some (WD rz),some (OD owns),some (LN s.line),some (LN s.things),some (KD (FD [] (tS rz s))),some (KD (FD [] (fS rz owns s))),none,none]) rfl).trans ?_;refine(ar ((eU (ds:=s.line.map nD) rfl).trans hloop)).trans ?_;refine(ar (aZ (f8 (l:=s.line) nD (fun _=>true) (fun h=>iR (tS rz s) (Rg.cf (fS rz owns s) s.line.length h)) rfl (by have:=S.nl;omega) fun h hh=>⟨[some (nD h),some (KD (FD s.line (tS rz s))),some (KD (FD s.line (fS rz owns s)))],rfl,rfl,fun _=>aP (aj (d:=nD h) rfl (aj (d:=KD (FD s.line (tS rz s))) rfl (aj (d:=KD (FD s.line (fS rz owns s))) rfl ap))) (Hg hcl S.nl hh)⟩))).trans ?_;rw[kh];refine br (bP (bV (aj (f8 (l:=s.line.map (Rg.cf (fS rz owns s) s.line.length)) (iR (tS rz s)) Ro (iR (tS rz s)) ?_ (by have:=S.nl;simp;omega) fun o _=>⟨[some (iR (tS rz s) o)],rfl,bN (av (a:=iR (tS rz s) o) (b:=.non) rfl rfl (Hl _ _)),fun _=>rfl⟩) ap) ?_))
 .rw[Kx];rfl
 .rw[rQ];exact hs
theorem wC{t:Nat->Nat}{line:List Nat}(hl:line.length<=60)(rg d:D):∀(ring L:List Nat)(kvs:List (Nat×Nat))(x y:Option D),GI t kvs L->(∀h∈L++ring,h∈line) ->∃kvs' x' y',GI t kvs' (L++ring)/\aB (gP (cS (aE 3) (cS (aE 4) gH))) Ag (ring.map (bW t)) [some rg,some (KD kvs),some d,x,y]=.nx [some rg,some (KD kvs'),some d,x',y']
|[],L,kvs,x,y,g,hs=>⟨kvs,x,y,by rw[KA];exact g,fg⟩
|h::ring,L,kvs,x,y,g,hs=>by obtain⟨kvs',x',y',g',ih⟩:=wC hl rg d ring (L++[h]) (putN kvs h (t h)) (some (nD h)) (some (nD (t h))) (g.put h) (by simpa using hs);refine⟨kvs',x',y',by simpa using g',?_⟩;rw[<-ih];have hk:=g.len (line:=line) fun x hx=>hs x (Lv _ hx);exact eR (r1:=[some rg,some (KD kvs),some d,some (nD h),some (nD (t h))]) rfl (ar (j9 (d:=KD kvs) (k:=nD h) (v:=nD (t h)) rfl rfl rfl (q8 (by omega))))
theorem xg{t:Nat->Nat}{line:List Nat}(hl:line.length<=60)(rg:D):∀(rs:List (List Nat))(L:List Nat)(kvs:List (Nat×Nat))(z x y:Option D),GI t kvs L->(∀h∈L++rs.flatten,h∈line) ->∃kvs' z' x' y',GI t kvs' (L++rs.flatten)/\aB (aE 2) Ah (rs.map (aQ t)) [some rg,some (KD kvs),z,x,y]=.nx [some rg,some (KD kvs'),z',x',y']
|[],L,kvs,z,x,y,g,hs=>⟨kvs,z,x,y,by simpa using g,fg⟩
|r::rs,L,kvs,z,x,y,g,hs=>by
  obtain⟨kvs1,x1,y1,g1,h1⟩:=wC hl rg (aQ t r) r L kvs x y g fun h hh=>hs h (by
   rw[LG];rcases KU.mp hh with q|q
   .exact Lv _ q
   .exact KG _ (Lv _ q))
  obtain⟨kvs',z',x',y',g',ih⟩:=xg hl rg rs (L++r) kvs1 (some (aQ t r)) x1 y1 g1 (by rw[K8];simpa using hs);refine⟨kvs',z',x',y',by rw[K8]at g';simpa using g',?_⟩;rw[<-ih];exact eR (r1:=[some rg,some (KD kvs),some (aQ t r),x,y]) rfl (ar ((eU (ds:=r.map (bW t)) rfl).trans h1))
theorem oN{t:Nat->Nat}{line:List Nat}{rs:List (List Nat)}(hl:line.length<=60)(hs:∀h∈rs.flatten,h∈line):∃kvs,GI t kvs rs.flatten/\gZ [.lst (rs.map (aQ t))]=.ok (KD kvs):=by obtain⟨kvs',z',x',y',g',h⟩:=xg hl (.lst (rs.map (aQ t))) rs [] [] none none none ⟨by simp,fun _ hp=>(nomatch hp),fun h=>by simp⟩ (by simpa using hs);refine⟨kvs',by simpa using g',cm (B:=sf) (n:=5) ?_⟩;unfold sf;refine(ar (r':=[some (.lst (rs.map (aQ t))),some (KD []),none,none,none]) rfl).trans ?_;refine(ar ((eU (ds:=rs.map (aQ t)) rfl).trans h)).trans ?_;exact br (bP (d:=KD kvs') rfl)
end
section
variable{rz:List (List Nat)}{owns:List (Option Nat)}
inductive Ch(rz:List (List Nat))(owns:List (Option Nat)):Rg.S->List (List (List Nat)×Rg.S)->Prop where
 |nil {s:Rg.S}:s.line=[]->Ch rz owns s []
 |cons {s:Rg.S} {rs:List (List Nat)} {l:List (List (List Nat)×Rg.S)}:s.line≠[]->ii (tS rz s) rs->rs.Perm (Rg.d7 (Wr rz) (own owns) s)->Ch rz owns (Rg.minus (Wr rz) s rs.flatten) l->Ch rz owns s ((rs,s)::l)
abbrev gD(rz:List (List Nat))(p:List (List Nat)×Rg.S):D:=.lst (p.1.map (aQ (tS rz p.2)))
theorem lB{s:Rg.S}{rs:List (List Nat)}(hp:rs.Perm (Rg.d7 (Wr rz) (own owns) s)):Rg.Cyc (Wr rz) (own owns) s rs.flatten:=Rg.yD (fun h hh=>by obtain⟨r,h1,h2⟩:=KS.mp hh;exact⟨r,hp.mem_iff.mp h1,h2⟩) (fun r hr h hh=>KS.mpr ⟨r,hp.mem_iff.mpr hr,hh⟩)
theorem Snd.minus{s:Rg.S}(S:Snd rz owns s){C:List Nat}(c:Rg.Cyc (Wr rz) (own owns) s C):Snd rz owns (Rg.minus (Wr rz) s C) where
 ok:=Rg.mK S.ok c
 inr:=fun h hh=>S.inr h (w_.mp hh).1
 ino:=fun h hh=>S.ino h (w_.mp hh).1
 wid:=fun h hh=>S.wid h (w_.mp hh).1
 nl:=KF (Ln _ _) S.nl
 nt:=KF (Ln _ _) S.nt
theorem GM{s:Rg.S}{C:List Nat}(c:Rg.Cyc (Wr rz) (own owns) s C)(hne:C≠[]):(Rg.minus (Wr rz) s C).line.length<s.line.length:=by obtain⟨x,hx⟩:=LJ _ hne;have:=Rg.sA (fun h=>decide (h∉C)) s.line;have h3:0<(s.line.filter fun h=>! decide (h∉C)).length:=MC (w_.mpr ⟨c.sub x hx,by simpa using hx⟩);show(s.line.filter _).length<_;omega
theorem Js{s:Rg.S}{rs:List (List Nat)}(hp:rs.Perm (Rg.d7 (Wr rz) (own owns) s))(hne:s.line≠[]):rs.flatten≠[]:=by obtain⟨x,hx⟩:=LJ _ (Rg.Dg (W:=Wr rz) (O:=own owns) hne);obtain⟨r,h1,h2⟩:=KS.mp hx;exact KP (KS.mpr ⟨r,hp.mem_iff.mpr h1,h2⟩)
theorem qx{kvs:List (Nat×Nat)}{L:List Nat}{t:Nat->Nat}(g:GI t kvs L)(h:Nat):cB (nD h) (KD kvs)=some (.bl (decide (h∉L))):=by
 show(some (cX _ (kI h))).map (fun b=>D.bl (! b))=_;have e:cX (kvs.map fun p=>(kI p.1,nD p.2)) (kI h)=decide (h∈kvs.map (·.1)):=nK kvs h;rw[e];have:decide (h∈kvs.map (·.1))=decide (h∈L):=by rw[decide_eq_decide];exact g.key h
 rw[this];show some (D.bl (! decide (h∈L)))=_;rw[decide_not]
theorem GI.vals{kvs:List (Nat×Nat)}{L:List Nat}{t:Nat->Nat}(g:GI t kvs L)(x:Nat):x∈kvs.map (·.2)↔x∈L.map t:=by
 constructor
 .intro hx;obtain⟨p,h1,rfl⟩:=r_.mp hx;exact r_.mpr ⟨p.1,(g.key _).mp (r_.mpr ⟨p,h1,rfl⟩),(g.val p h1).symm⟩
 .intro hx;obtain⟨h,h1,rfl⟩:=r_.mp hx;obtain⟨p,h2,rfl⟩:=r_.mp ((g.key h).mpr h1);exact r_.mpr ⟨p,h2,g.val p h2⟩
theorem wp{kvs:List (Nat×Nat)}{L:List Nat}{t:Nat->Nat}(g:GI t kvs L)(x:Nat):cB (nD x) (LN (kvs.map (·.2)))=some (.bl (decide (x∉L.map t))):=by rw[mH,decide_not];congr 3;rw[decide_eq_decide];exact g.vals x
theorem Fx(od:D):∀(j:Nat)(s:Rg.S)(told:List D)(x y z:Option D),Snd rz owns s->s.line.length<j->told.length+s.line.length<=60 ->
  ∃(s':Rg.S)(l:List (List (List Nat)×Rg.S))(x' y' z':Option D),Ch rz owns s l/\l.length<=s.line.length /\
   dH dM Ap Ai j [some (WD rz),some (OD owns),some od,some (LN s.line),some (LN s.things),some (.lst told),x,y,z]
    = .nx [some (WD rz),some (OD owns),some od,some (LN s'.line),some (LN s'.things),some (.lst (told++l.map (gD rz))),x',y',z']:=by
 intro j
 induction j with
|zero=>intro s told x y z _ h;omega
|succ j ih=>
  intro s told x y z S hj ht;by_cases hne:s.line=[]
  .refine⟨s,[],x,y,z,.nil hne,KN _,?_⟩;rw[LC,KA];refine oB (gL (d:=LN s.line) rfl ?_);rw[hne];rfl
  .obtain⟨rs,hp,hu,hr⟩:=Ix S;have c:=lB hp;obtain⟨kvs,g,hg⟩:=oN (t:=tS rz s) S.nl c.sub;have hlt:=GM c (Js hp hne);obtain⟨s',l,x',y',z',h1,h2,h3⟩:=ih (Rg.minus (Wr rz) s rs.flatten) (told++[gD rz (rs,s)]) (some (gD rz (rs,s))) (some (KD kvs)) (some (LN (kvs.map (·.2)))) (S.minus c) (by omega) (by simp;omega);refine⟨s',(rs,s)::l,x',y',z',.cons hne hu hp h1,by simp;omega,?_⟩;rw[K8]at h3;rw[B_];refine RZ (oC (gL (b:=true) (d:=LN s.line) rfl ?_) ?_) h3
   .cases q:s.line with
   |nil=>exact absurd q hne
   |cons a t=>rfl
   .refine(ar (aZ (aP (aj (d:=WD rz) rfl (aj (d:=OD owns) rfl (aj (d:=LN s.line) rfl (aj (d:=LN s.things) rfl ap)))) hr))).trans ?_;refine(ar (aZ (aP (aj (d:=.lst (rs.map (aQ (tS rz s)))) rfl ap) hg))).trans ?_;refine(ar (aZ (d:=LN (kvs.map (·.2))) (mh (a:=KD kvs) rfl ?_))).trans ?_
    .rw[e_valsD,Kx];show some (D.lst _)=some (D.lst ((kvs.map (·.2)).map nD));rw[Kx];rfl
    refine(ar (aZ (f8 (l:=s.line) nD (fun h=>decide (h∉rs.flatten)) nD rfl (by have:=S.nl;omega) fun h hh=>⟨[some (nD h),some (KD kvs)],rfl,bN (av (a:=nD h) (b:=KD kvs) rfl rfl (qx g h)),fun _=>rfl⟩))).trans ?_;refine(ar (aZ (f8 (l:=s.things) nD (fun x=>decide (x∉rs.flatten.map (tS rz s))) nD rfl (by have:=S.nt;omega) fun h hh=>⟨[some (nD h),some (LN (kvs.map (·.2)))],rfl,bN (av (a:=nD h) (b:=LN (kvs.map (·.2))) rfl rfl (wp g h)),fun _=>rfl⟩))).trans ?_;refine(ar (gI (d:=.lst told) (ds:=[gD rz (rs,s)]) rfl rfl (aj (d:=gD rz (rs,s)) rfl ap) (ka (by omega)))).trans ?_;rfl
def cJ:Option (List Nat)->D
|none=>.non
|some l=>LN l
def s0(rz:List (List Nat))(o:Option (List Nat)):Rg.S:=⟨o.getD (h_ rz.length),h_ (rz.headD []).length⟩
theorem FC{B:FS}{n:Nat}{ds:List D}{d:D}(h:B (bh n ds)=.rt d):aD true (B (bh n ds))=.ok d:=by rw[h];rfl
theorem AA{o:Option (List Nat)}(ho:∀l,o=some l->l.Nodup/\(∀k∈l,k<rz.length)/\l.length=rz.length)(h8:rz.length<=60):jH [WD rz,cJ o]=.ok (LN (s0 rz o).line):=by cases o with
|none=>exact JY (by omega)
|some l=>obtain⟨h1,h2,h3⟩:=ho l rfl;exact Iw h1 h2 h3 (by omega)
theorem AB{o:Option (List Nat)}(ho:∀l,o=some l->l.Nodup/\(∀k∈l,k<rz.length)/\l.length=rz.length)(hr:rz≠[])(h8:rz.length<=60)(S:Snd rz owns (s0 rz o)):∃l,Ch rz owns (s0 rz o) l/\l.length<=60/\kd [WD rz,OD owns,cJ o]=.ok (.lst (l.map (gD rz))):=by obtain⟨s',l,x',y',z',h1,h2,h3⟩:=Fx (rz:=rz) (owns:=owns) (cJ o) 64 (s0 rz o) [] none none none S (by have:=S.nl;omega) (by have:=S.nl;simp;omega);refine⟨l,h1,by have:=S.nl;omega,FC (B:=oV) (n:=9) ?_⟩;unfold oV;cases rz with
|nil=>exact absurd rfl hr
|cons row rest=>refine(ar (aZ (aP (aj (d:=WD (row::rest)) rfl (aj (d:=cJ o) rfl ap)) (AA ho h8)))).trans ?_;refine(ar (aZ (d:=LN (s0 (row::rest) o).things) (bV (aj (aP (aj (d:=WD (row::rest)) rfl ap) AC) ap) (rR (by have:=S.nt;unfold s0 at this;simp at this;omega))))).trans ?_;refine(ar (aZ (d:=.lst []) (fR ap (by simp)))).trans ?_;refine(ar h3).trans ?_;exact br (bP (d:=.lst (l.map (gD (row::rest)))) rfl)
theorem xZ:∀(more kvs:List (Nat×Nat)),mG (kvs.map fun p=>(kI p.1,nD p.2)) (more.map fun p=>(kI p.1,nD p.2))=(more.foldl (fun acc p=>putN acc p.1 p.2) kvs).map fun p=>(kI p.1,nD p.2)
|[],kvs=>rfl
|p::more,kvs=>by have ih:=xZ more (putN kvs p.1 p.2);rw[List.foldl_cons,<-ih,<-xu];rfl
theorem yX{t:Nat->Nat}:∀(more kvs:List (Nat×Nat))(L:List Nat),GI t kvs L->(∀p∈more,p.2=t p.1)->GI t (more.foldl (fun acc p=>putN acc p.1 p.2) kvs) (L++more.map (·.1))
|[],kvs,L,g,_=>by simpa using g
|p::more,kvs,L,g,h=>by have:=yX more (putN kvs p.1 p.2) (L++[p.1]) (by rw[h p j_];exact g.put p.1) fun q hq=>h q (k_ _ hq);rw[K8]at this;exact this
theorem xU{a:Nat->Nat}{line:List Nat}(hl:line.length<=60)(od:D):∀(l:List (List (List Nat)×Rg.S))(L:List Nat)(kvs:List (Nat×Nat))(z:Option D),GI a kvs L->(∀h∈L,h∈line) ->(∀p∈l,∀h∈p.1.flatten,a h=tS rz p.2 h/\h∈line) ->∃kvs' z',GI a kvs' (L++l.flatMap fun p=>p.1.flatten)/\aB (aE 4) AQ (l.map (gD rz)) [some (WD rz),some (OD owns),some od,some (KD kvs),z]=.nx [some (WD rz),some (OD owns),some od,some (KD kvs'),z']
|[],L,kvs,z,g,_,_=>⟨kvs,z,by simpa using g,fg⟩
|p::l,L,kvs,z,g,hL,hp=>by
  have h0:=hp p j_;obtain⟨more,g1,hg⟩:=oN (t:=tS rz p.2) (rs:=p.1) hl fun h hh=>(h0 h hh).2;have g2:=g1.congr (t':=a) fun x hx=>(h0 x hx).1;have g3:=(yX more kvs L g g2.val).mem (M:=L++p.1.flatten) fun x=>by rw[KU,KU,g2.key]
  obtain⟨kvs',z',g',ih⟩:=xU hl od l (L++p.1.flatten) _ (some (gD rz p)) g3 (fun h hh=>by
   rcases KU.mp hh with q|q
   .exact hL h q
   .exact(h0 h q).2) fun q hq=>hp q (k_ _ hq)
  refine⟨kvs',z',by rw[K8]at g';simpa using g',?_⟩;rw[<-ih];refine eR (r1:=[some (WD rz),some (OD owns),some od,some (KD kvs),some (gD rz p)]) rfl (ar (gI (d:=KD kvs) (ds:=[KD more]) rfl rfl (aj (aP (aj (d:=gD rz p) rfl ap) hg) ap) ?_));have l1:=g.len hL;have l2:=g1.len (line:=line) fun h hh=>(h0 h hh).2;show(if _ then some (D.dic (mG _ _))else none)=_;rw[if_pos (by rw[l_,l_,K1];omega),xZ]
theorem yo{a:Nat->Nat}{s:Rg.S}{l:List (List (List Nat)×Rg.S)}(c:Ch rz owns s l):Rg.Ok (Wr rz) (own owns) s->Rg.TTC (Wr rz) (own owns) a s->(∀p∈l,∀h∈p.1.flatten,a h=tS rz p.2 h/\h∈s.line)/\∀h∈s.line,∃p∈l,h∈p.1.flatten:=by induction c with
|nil h0=>exact fun _ _=>⟨fun _ hp=>(nomatch hp),fun h hh=>by rw[h0]at hh;cases hh⟩
|@cons s rs l _ _ hp c ih=>
  intro k t;have cy:=lB hp;obtain⟨t1,t2⟩:=Rg.rS t k cy;obtain⟨i1,i2⟩:=ih (Rg.mK k cy) t1;refine⟨fun p hp' h hh=>?_,fun h hh=>?_⟩
  .rcases z_.mp hp' with rfl|q
   .exact⟨t2 h hh,cy.sub h hh⟩
   .exact⟨(i1 p q h hh).1,(w_.mp (i1 p q h hh).2).1⟩
  .by_cases hc:h∈rs.flatten
   .exact⟨(rs,s),j_,hc⟩
   .obtain⟨p,h1,h2⟩:=i2 h (w_.mpr ⟨hh,by simpa using hc⟩);exact⟨p,k_ _ h1,h2⟩
theorem Ju{o:Option (List Nat)}{a:Nat->Nat}(ho:∀l,o=some l->l.Nodup/\(∀k∈l,k<rz.length)/\l.length=rz.length)(hr:rz≠[])(h8:rz.length<=60)(S:Snd rz owns (s0 rz o))(hall:∀h,h<rz.length->h∈(s0 rz o).line)(t:Rg.TTC (Wr rz) (own owns) a (s0 rz o)):mY [WD rz,OD owns,cJ o]=.ok (TN ((h_ rz.length).map a)):=by
 obtain⟨l,hc,hl,hrun⟩:=AB ho hr h8 S;obtain⟨c1,c2⟩:=yo hc S.ok t;obtain⟨kvs',z',g,hloop⟩:=xU (rz:=rz) (owns:=owns) (a:=a) S.nl (cJ o) l [] [] none ⟨by simp,fun _ hp=>(nomatch hp),fun h=>by simp⟩ (fun _ hh=>(nomatch hh)) c1;refine cm (B:=pH) (n:=5) ?_;unfold pH;refine(ar (r':=[some (WD rz),some (OD owns),some (cJ o),some (KD []),none]) rfl).trans ?_;refine(ar ((eU (ds:=l.map (gD rz)) (fU (aP (aj (d:=WD rz) rfl (aj (d:=OD owns) rfl (aj (d:=cJ o) rfl ap))) hrun) rfl)).trans hloop)).trans ?_;refine br (bP (aP (aj (d:=KD kvs') rfl ap) (A7 g (n:=rz.length) (fun x=>?_) h8)));rw[O8,List.mem_flatMap];constructor
 .rintro⟨p,h1,h2⟩
  exact S.inr x (c1 p h1 x h2).2
 .intro hx;obtain⟨p,h1,h2⟩:=c2 x (hall x hx);exact⟨p,h1,h2⟩
end
theorem oj{a b:Nat}(h:0<b):bz (nD a) (nD b)=some (nD (a%b)):=by rw[ya (by omega:(0:Int)<(b:Int))];show some (D.int _)=some (D.int _);rw[Int.natCast_emod]
theorem yg{a b:Nat}(h:0<b)(h2:b<1000):jS (nD a) (nD b)=some (nD (a/b)):=by rw[Ge (⟨by omega,by omega⟩:gB (a:Int) (b:Int))];show some (D.int _)=some (D.int _);rw[Int.natCast_ediv]
theorem li(a b:Nat):addA (nD a) (nD b)=some (nD (a+b)):=by rw[addA_int];show some (D.int _)=some (D.int _);rw[Int.natCast_add]
section
variable{f f':FE}{r:al}
theorem k6{b:Int}(h:∃i:Int,f r=.ok (.int i))(h':f' r=.ok (.int b))(hb:0<b):∃c:Nat,f2 f f' bz r=.ok (nD c):=by obtain⟨i,hi⟩:=h;refine⟨(i%b).toNat,av hi h' ?_⟩;rw[ya hb];show some (D.int _)=some (D.int _);rw[Int.toNat_of_nonneg (Int.emod_nonneg _ (by omega))]
theorem Bu(h:∃c:Nat,f r=.ok (nD c)):∃i:Int,f r=.ok (.int i):=let⟨c,e⟩:=h;⟨c,e⟩
theorem j5{b:Int}(h:∃i:Int,f r=.ok (.int i))(h':f' r=.ok (.int b))(hb : -(2^64)<b/\b<2^64):∃i:Int,f2 f f' cK r=.ok (.int i):=by obtain⟨i,hi⟩:=h;exact⟨i*b,av hi h' (Ev (.inr hb))⟩
theorem nZ(h:∃i:Int,f r=.ok (.int i))(h':∃i:Int,f' r=.ok (.int i)):∃i:Int,f2 f f' addA r=.ok (.int i):=by obtain⟨i,hi⟩:=h;obtain⟨j,hj⟩:=h';exact⟨i+j,av hi hj rfl⟩
end
theorem ww{m:List Md}{i:Nat}{f:FE}{s2:FS}{r:al}(h:∃c:Nat,f r=.ok (nD c))(k:∀c:Nat,∃d:Nat,s2 (r.set i (some (nD c)))=.rt (nD d)):∃d:Nat,aa (ao m i f) s2 r=.rt (nD d):=by obtain⟨c,hc⟩:=h;obtain⟨d,hd⟩:=k c;exact⟨d,(ar (aZ hc)).trans hd⟩
abbrev IN(ns:List Int):D:=.lst (ns.map .int)
theorem gM(ns:List Int)(k:Nat)(hk:k<=1000):∃c:Nat,cR [IN ns,nD k]=.ok (nD c):=by
 suffices h:∃c:Nat,pj (bh 4 [IN ns,nD k])=.rt (nD c)by obtain⟨c,hc⟩:=h;exact⟨c,cm (B:=pj) (n:=4) hc⟩
 unfold pj;have st:aa (ao bc 2 (ci 0))=aa (ao bc 2 (fun _=>Res.ok (nD 0))):=rfl;rw[st];refine ww ⟨0,rfl⟩ fun c1=>?_;show ∃d:Nat,aa _ _ [some (IN ns),some (nD k),some (nD c1),none]=_;have key:∃c2:Nat,(cM bc (aN (f2 (gv 1) (fC (ag (gv 0) ae) lenD) jI)) (aa (ao bc 2 (f2 (f2 (gv 0) (gv 1) aW) (f2 (ci 10) (ci 60) h9) bz)) ay) ay) [some (IN ns),some (nD k),some (nD c1),none]=.nx [some (IN ns),some (nD k),some (nD c2),none]:=by
  have t:=bN (av (f:=gv 1) (r:=[some (IN ns),some (nD k),some (nD c1),none]) (a:=nD k) rfl (bV (aj (f:=gv 0) (d:=IN ns) rfl ap) (lG _ _)) (qv k ns.length));by_cases hlt:k<ns.length
  .rw[decide_eq_true hlt]at t;have hx:(ns.map D.int)[k]? = some (.int ns[k]):=by rw[x_,d_ hlt];rfl
   have hp:h9 (.int 10) (.int 60)=some (.int (10^60)):=by show ju gA _ _ _=_;rw[intsC_int,if_pos (by unfold gA;decide)];rfl
   obtain⟨c2,h2⟩:=k6 (f:=f2 (gv 0) (gv 1) aW) (f':=f2 (ci 10) (ci 60) h9) (r:=[some (IN ns),some (nD k),some (nD c1),none]) ⟨ns[k],av (a:=IN ns) (b:=nD k) rfl rfl (wo hx)⟩ (av rfl rfl hp) (by decide);exact⟨c2,(cW t).trans ((ar (aZ h2)).trans rfl)⟩
  .rw[decide_eq_false hlt]at t;exact⟨c1,(bU t).trans rfl⟩
 obtain⟨c2,h2⟩:=key;rw[ar h2];have kq:∃b,(dS (aN (f2 (fC (ag (gv 0) ae) lenD) (ci 0) jK)) (aN (f2 (f2 (f2 (gv 0) (ci 0) aW) (ci 2) bz) (ci 0) eqD))) [some (IN ns),some (nD k),some (nD c2),none]=.ok b:=by have t:=bN (av (f:=fC (ag (gv 0) ae) lenD) (f':=fun _=>Res.ok (D.int 0)) (r:=[some (IN ns),some (nD k),some (nD c2),none]) (b:=nD 0) (bV (aj (d:=IN ns) rfl ap) (lG _ _)) rfl (n6 ns.length 0));cases ns with
 |nil=>exact⟨false,wl t⟩
 |cons a ns=>rw[decide_eq_true (by simp)]at t;obtain⟨c3,h3⟩:=k6 (f:=f2 (gv 0) (ci 0) aW) (f':=fun _=>Res.ok (D.int 2)) (r:=[some (IN (a::ns)),some (nD k),some (nD c2),none]) ⟨a,av (a:=IN (a::ns)) (b:=.int 0) rfl rfl (ixA_L0 _ _)⟩ rfl (by decide);exact⟨_,(qz t).trans (bN (av h3 (b:=nD 0) rfl (jR c3 0)))⟩
 obtain⟨b,hb⟩:=kq;cases b with
|true=>exact⟨c2,br ((cW hb).trans (br (bP (d:=nD c2) rfl)))⟩
|false=>rw[ar ((bU (s2:=ay) hb).trans (e_skip _))];refine ww (k6 (j5 (Bu (k6 (j5 (nZ (nZ (nZ ⟨(c2:Int),rfl⟩ (j5 (b:=(k:Int)) (j5 (b:=(k:Int)) ⟨7,rfl⟩ rfl (by omega)) rfl (by omega))) (j5 (b:=(k:Int)) ⟨13,rfl⟩ rfl (by omega))) ⟨5,rfl⟩) rfl (by decide)) rfl (by decide))) rfl (by decide)) rfl (by decide)) fun c3=>?_;obtain⟨c4,h4⟩:=k6 (f:=(f2 (f2 (f2 (f2 (gv 3) (ci 1) addA) (ci 40692) cK) (ci 2147483629) bz) (ci 39373) cK)) (f':=fun _=>Res.ok (D.int 999999937)) (r:=[some (IN ns),some (nD k),some (nD c2),some (nD c3)]) (j5 (Bu (k6 (j5 (nZ ⟨(c3:Int),rfl⟩ ⟨1,rfl⟩) rfl (by decide)) rfl (by decide))) rfl (by decide)) rfl (by decide);exact⟨c4,br (bP h4)⟩
theorem Hj{row:List Nat}{i:Int}{x:Nat}:bK (row.map nD) i (nD x)=(bK row i x).map nD:=by unfold bK;rw[l_,KJ,B_,Nv,Px]
theorem HP{row:List Nat}{i:Int}{x:Nat}:(bK row i x).Perm (x::row):=by unfold bK;refine List.perm_middle.trans ?_;rw[LM]
theorem zy(m:Nat):∀(j i c:Nat)(row:List Nat)(x:Option D),row.Perm (h_ i)->i+j<=60 ->∃(c':Nat)(row':List Nat)(x':Option D),row'.Perm (h_ (i+j))/\aB (aE 3) AO ((MQ i j).map nD) [some (nD c),some (nD m),some (LN row),x]=.nx [some (nD c'),some (nD m),some (LN row'),x']
|0,i,c,row,x,hp,_=>⟨c,row,x,hp,fg⟩
|j+1,i,c,row,x,hp,hl=>by
  have hlen:row.length=i:=by rw[hp.length_eq];simp
  obtain⟨c',row',x',h1,h2⟩:=zy m j (i+1) (c/(i+1)) (bK row ((c%(i+1):Nat):Int) i) (some (nD i)) (by refine HP.trans ?_;rw[O6];exact(List.Perm.cons i hp).trans (List.perm_append_singleton i _).symm) (by omega);refine⟨c',row',x',by rw[show i+(j+1)=i+1+j by omega];exact h1,?_⟩;rw[<-h2];have hmod:c%(i+1)<i+1:=MS _ (by omega);refine eR (r1:=[some (nD c),some (nD m),some (LN row),some (nD i)]) rfl ?_;refine(ar (gI (d:=LN row) (ds:=[nD (c%(i+1)),nD i]) (d':=LN (bK row ((c%(i+1):Nat):Int) i)) rfl rfl (aj (av (a:=nD c) (b:=nD (i+1)) rfl (av (a:=nD i) (b:=nD 1) rfl rfl (li i 1)) (oj (by omega))) (aj (d:=nD i) rfl ap)) ?_)).trans ?_
  .show(if _ then some (D.lst (bK _ _ _))else none)=_;rw[if_pos ⟨by rw[l_,K1];omega,by omega,by omega⟩,Hj]
  .exact ar (aZ (d:=nD (c/(i+1))) (av (a:=nD c) (b:=nD (i+1)) rfl (av (a:=nD i) (b:=nD 1) rfl rfl (li i 1)) (yg (by omega) (by omega))))
theorem iY(c m:Nat)(hm:m<=60):∃row:List Nat,row.Perm (h_ m)/\eB [nD c,nD m]=.ok (TN row):=by obtain⟨c',row',x',h1,h2⟩:=zy m m 0 c [] none (by simp) (by omega);rw[OZ]at h1;rw[<-NB]at h2;refine⟨row',h1,cm (B:=sF) (n:=4) ?_⟩;unfold sF;refine(ar (aZ (d:=LN []) (fR ap (by simp)))).trans ?_;refine(ar ((eU (ds:=(h_ m).map nD) (lv (aj (d:=nD m) rfl ap) (lq (by omega)))).trans h2)).trans ?_;exact br (bP (bV (aj (d:=LN row') rfl ap) rfl))
structure Own(owns:List (Option Nat))(m:Nat):Prop where
 lt:∀x,some x∈owns->x<m
 inj:∀h k x,own owns h=some x->own owns k=some x->h=k
theorem rA{owns:List (Option Nat)}{h x:Nat}(e:own owns h=some x):some x∈owns/\h<owns.length:=by unfold own at e;cases q:owns[h]? with
|none=>rw[q]at e;cases e
|some o=>rw[q]at e;have:o=some x:=e;subst this;exact⟨Lh q,(c_.mp q).1⟩
structure Scene(rz:List (List Nat))(owns:List (Option Nat))(o:Option (List Nat))(n m:Nat):Prop where
 n1:1<=n
 n7:n<=7
 nm:n<=m
 m8:m<=8
 rl:rz.length=n
 rp:∀row∈rz,row.Perm (h_ m)
 ow:Own owns m
 ol:owns.length=n
 op:∀l,o=some l->l.Perm (h_ n)
end Law
namespace Law
open PySem PyProof.Rows L2 DL
theorem CA(a b:Nat):dz (nD a) (nD b)=decide (a=b):=by show(((a:Nat):Int)==(b:Int))=_;rw[Kv,beq_iff_eq,decide_eq_true_iff];exact M6
theorem oE(k:Nat):∀l:List Nat,k∈l->fO (nD k) (l.map nD)=some (l.idxOf k)
|[],h=>by cases h
|a::l,h=>by
  show(if dz (nD a) (nD k)=true then some 0 else(fO (nD k) (l.map nD)).map (· + 1))=_;rw[CA];by_cases e:a=k
  .rw[if_pos (by simpa using e)];subst e;simp
  .rw[if_neg (by simpa using e),oE k l ((z_.mp h).resolve_left fun z=>e z.symm)];have hf:(a==k)=false:=by simpa using e
   rw[QD,hf];rfl
theorem yf(k:Nat):∀l:List Nat,(l.map nD).eraseIdx (l.idxOf k)=(l.erase k).map nD
|[]=>rfl
|a::l=>by
  by_cases e:a=k
  .subst e;simp
  .rw[QD,Pm (by simpa using e)];have:(a==k)=false:=by simpa using e
   rw[this];show nD a::(l.map nD).eraseIdx (l.idxOf k)=_;rw[yf k l];rfl
theorem D7{k:Nat}{l:List Nat}(h:k∈l):remD (LN l) [nD k]=some (LN (l.erase k)):=by show(if (l.map nD).all isInt=true then(fO (nD k) (l.map nD)).map fun j=>D.lst ((l.map nD).eraseIdx j)else none)=_;rw[if_pos (by rw[LO];intro x hx;obtain⟨y,_,rfl⟩:=r_.mp hx;rfl),oE k l h];show some (D.lst _)=some (D.lst _);rw[yf]
theorem Gi{k:Nat}{l:List Nat}(h:k∈l):oF (TN l) [nD k]=some (nD (l.idxOf k)):=by show(if ce (nD k)=true/\(l.map nD).all ce=true then(fO (nD k) (l.map nD)).map fun j=>D.int j else none)=_;rw[if_pos ⟨rfl,n5 l⟩,oE k l h];rfl
theorem n0{T:String}{fo:FE}{fl:al->Res (List D)}{k:D->List D->Option D}{r:al}{d d':D}{ds:List D}(h1:fo r=.ok d)(ht:qi T d=true)(h2:fl r=.ok ds)(h3:k d ds=some d'):fM T fo fl k r=.ok d':=by unfold fM;rw[h1,bind_ok,if_pos ht,h2,bind_ok,h3];rfl
section
variable{rz:List (List Nat)}{owns:List (Option Nat)}{o:Option (List Nat)}{n m:Nat}
theorem Scene.ne(S:Scene rz owns o n m):rz≠[]:=by
 rintro rfl
 have:=S.rl;have:=S.n1;simp at *;omega
theorem Scene.row(S:Scene rz owns o n m){h:Nat}(hh:h<n):(Wr rz h).Perm (h_ m):=by unfold Wr;rw[d_ (by rw[S.rl];exact hh)];exact S.rp _ (MW _)
theorem Scene.row0(S:Scene rz owns o n m):(rz.headD []).length=m:=by cases rz with
|nil=>exact absurd rfl S.ne
|cons r t=>rw[List.headD_cons,(S.rp r j_).length_eq];simp
theorem Scene.line_perm(S:Scene rz owns o n m):(s0 rz o).line.Perm (h_ n):=by unfold s0;cases o with
|none=>rw[S.rl];exact List.Perm.refl _
|some l=>exact S.op l rfl
theorem Scene.mem(S:Scene rz owns o n m){h:Nat}:h∈(s0 rz o).line↔h<n:=by rw[S.line_perm.mem_iff];exact s_
theorem Scene.things(S:Scene rz owns o n m):(s0 rz o).things=h_ m:=by unfold s0;rw[S.row0]
theorem Scene.ok(S:Scene rz owns o n m):Rg.Ok (Wr rz) (own owns) (s0 rz o) where
 nl:=S.line_perm.nodup_iff.mpr Lz
 nt:=by rw[S.things];exact Lz
 le:=by rw[S.things,S.line_perm.length_eq];simp;exact S.nm
 row:=fun h hh x hx=>by rw[S.things]at hx;exact(S.row (S.mem.mp hh)).mem_iff.mpr hx
 inj:=S.ow.inj
 own:=fun h hh x hx=>by rw[S.things];exact s_.mpr (S.ow.lt x (rA hx).1)
theorem Scene.snd(S:Scene rz owns o n m):Snd rz owns (s0 rz o) where
 ok:=S.ok
 inr:=fun h hh=>by rw[S.rl];exact S.mem.mp hh
 ino:=fun h hh=>by rw[S.ol];exact S.mem.mp hh
 wid:=fun h hh=>by have:=(S.row (S.mem.mp hh)).length_eq;have:=S.m8;simp at *;omega
 nl:=by have:=S.line_perm.length_eq;have:=S.n7;simp at *;omega
 nt:=by rw[S.things];have:=S.m8;simp;omega
theorem Scene.ord(S:Scene rz owns o n m):∀l,o=some l->l.Nodup/\(∀k∈l,k<rz.length)/\l.length=rz.length:=by
 intro l hl;have p:=S.op l hl;refine⟨p.nodup_iff.mpr Lz,fun k hk=>?_,?_⟩
 .rw[S.rl];exact s_.mp (p.mem_iff.mp hk)
 .rw[p.length_eq,S.rl];simp
theorem qS{mm:List Md}{f:FE}{ft:FT}{r r':al}{d:D}(h:f r=.ok d)(h2:ft d r=some r'):gu mm f ft r=.nx r':=by unfold gu;rw[h,onE_ok];simp only[h2]
theorem Ab{row T:List Nat}{x:Nat}{l:List Nat}(h:row=x::l)(hx:x∈T):Rg.best row T=x:=by subst h;unfold Rg.best;rw[KB];simp[hx]
end
theorem zQ:∀l l':List Nat,Lc (zcd (l.map nD)) (zcd (l'.map nD))=decide (l=l')
|[],[]=>by simp[zcd,Lc]
|[],k::l=>by simp[zcd,Lc]
|k::l,[]=>by simp[zcd,Lc]
|k::l,k'::l'=>by have ih:=zQ l l';simp only[B_,zcd,aV,Lc,Nr,ih];rw[Kv];simp;omega
theorem wK{l:List Nat}{k:Nat}:∀d∈l.map nD,bM k d:=by intro d hd;obtain⟨x,_,rfl⟩:=r_.mp hd;cases k <;> trivial
theorem C7(l l':List Nat):eM (TN l) (TN l')=some (decide (l=l')):=by rw[zk rfl (lA.mpr wK) (lA.mpr wK)];unfold kO;simp only[aV,Nr,zQ]
theorem wt(l:List Nat):eM (TN l) (TN l)=some true:=by rw[C7,decide_eq_true rfl]
theorem Cz(l:List Nat):eqD (TN l) (TN l)=some (.bl true):=by unfold eqD;rw[wt];rfl
theorem Ca(l:List Nat):neD (TN l) (TN l)=some (.bl false):=by unfold neD;rw[wt];rfl
theorem r6{k:Nat}{l:List Nat}(h:k∈l):mN (LN l) [nD k]=some (nD (l.idxOf k)):=by show(if ce (nD k)=true/\(l.map nD).all ce=true then(fO (nD k) (l.map nD)).map fun j=>D.int j else none)=_;rw[if_pos ⟨rfl,n5 l⟩,oE k l h];rfl
theorem rE{l:List Nat}{i:Nat}(h:i<=l.length):ky (LN l) (some (i:Int)) none=some (LN (l.drop i)):=by show some (D.lst (bD (l.map nD) (some (i:Int)) none))=_;unfold bD;rw[HT.cz,HT.bY,l_,O9 h];rw[Nl (by simp)];show some (D.lst _)=some (D.lst ((l.drop i).map nD));rw[Px]
theorem iX{f:FE}{r:al}{i:Int}(h:f r=.ok (.int i)):gF f r=.ok (some i):=by unfold gF;rw[h];rfl
theorem js{fa:FE}{fl fh:FP}{r:al}{d d':D}{lo hi:Option Int}(h1:fa r=.ok d)(h2:fl r=.ok lo)(h3:fh r=.ok hi)(h4:ky d lo hi=some d'):gQ fa fl fh r=.ok d':=by unfold gQ;rw[h1,bind_ok,h2,bind_ok,h3,bind_ok,h4];rfl
theorem rj{ds:List D}{i:Nat}{v:D}(h:i<ds.length):dL (.lst ds) (nD i) v=some (.lst (ds.set i v)):=by show(fW ds.length (i:Int)).map _=_;unfold fW;rw[if_pos (M_ i),if_pos (by omega)];simp
theorem ke{nl:Nat}{cap:List Nat}{fi:FI}{ft:FT}{fe:FE}{r:al}{α:Type}{l:List α}(e:α->D)(g:α->D)(h1:fi r=.ok (l.map e))(hl:l.length<=1000)(h:∀a∈l,∃r1,ft (e a) (bf nl cap r)=some r1/\fe r1=.ok (g a)):cG nl cap fi ft (fun _=>Res.ok true) fe r=.ok (.lst (l.map g)):=by
 have:=f8 (q:=fun _=>Res.ok true) e (fun _=>true) g h1 hl fun a ha=>by obtain⟨r1,q1,q2⟩:=h a ha;exact⟨r1,q1,rfl,fun _=>q2⟩
 rw[this,kh]
end Law
namespace Law
open PySem L2 DL
theorem wL(l:List Nat)(i:Nat):ky (LN l) none (some (i:Int))=some (LN (l.take i)):=by show some (D.lst (bD (l.map nD) none (some (i:Int))))=_;unfold bD;rw[HT.cz,HT.bY,l_,MR,O0,<-Nv];show some (D.lst _)=some (D.lst ((l.take i).map nD));rw[No.mpr (by omega:min (min i l.length) l.length=min i l.length)]
theorem wZ{a b:List Nat}(h:a.length+b.length<=1000):addE (LN a) (LN b)=some (LN (a++b)):=by show addA (LN a) (LN b)=_;show(if (a.map nD).length+(b.map nD).length<=sizeLine then some (D.lst (a.map nD++b.map nD))else none)=_;rw[if_pos (by rw[l_,l_,K1];omega),<-KJ]
abbrev jf(l:List Nat):List Nat:=l.drop 1++l.take 1
theorem I0{l:List Nat}(h1:1<=l.length)(hl:l.length<=900):pM [LN l]=.ok (LN (jf l)):=by refine cm (B:=tz) (n:=1) ?_;unfold tz;exact br (bP (av (js (d:=LN l) rfl (iX (i:=((1:Nat):Int)) rfl) rfl (rE h1)) (js (d:=LN l) rfl rfl (iX (i:=((1:Nat):Int)) rfl) (wL l 1)) (wZ (by simp;omega))))
theorem zd:∀l:List Nat,iy (l.map nD)=some (l.map fun k:Nat=>(k:Int))
|[]=>rfl
|k::l=>by show(iy (l.map nD)).map _=_;rw[zd l];rfl
theorem rC{l:List Nat}(h:l≠[]):∃k∈l,(∀x∈l,k<=x)/\iN [LN l]=some (nD k):=by cases l with
|nil=>exact absurd rfl h
|cons a l=>
  have e:iN [LN (a::l)]=some (.int (eL ((a::l).map fun k:Nat=>(k:Int)))):=by show(iy ((a::l).map nD)).map _=_;rw[zd];rfl
  have hm:=Hs (ks:=(a::l).map fun k:Nat=>(k:Int)) (by simp);obtain⟨k,k1,k2⟩:=r_.mp hm;refine⟨k,k1,fun x hx=>?_,by rw[e,<-k2]⟩;have:=Eu (ks:=(a::l).map fun k:Nat=>(k:Int)) (r_.mpr ⟨x,hx,rfl⟩);rw[<-k2]at this;exact Int.ofNat_le.mp this
theorem oK{A:List Nat}{i j:Nat}(hi:i<=A.length)(hj:j<A.length):(A.drop i++A.take i)[j]? = A[(i+j)%A.length]?:=by
 by_cases h:j<A.length-i
 .rw[J_ (by rw[KR];exact h),L9,LA (by omega)]
 .rw[Lg (by rw[KR];omega),KR,LQ,if_pos (by omega)];congr 1;have:i+j=(i+j-A.length)+A.length:=by omega
  rw[this,Oi,LA (by omega)];omega
theorem Fj{A:List Nat}{i:Nat}(hi:i<A.length){j h l:Nat}(hz:((A.drop i++A.take i).zip (jf (A.drop i++A.take i)))[j]? = some (h,l)):∃k,A[k]? = some h/\A[(k+1)%A.length]? = some l:=by
 have hl:(A.drop i++A.take i).length=A.length:=by rw[I_,KR,K5];omega
 have hj:j<A.length:=by have:=(c_.mp hz).1;rw[O7]at this;omega
 rw[Oa]at hz;obtain⟨z1,z2⟩:=hz;rw[oK (by omega) hj]at z1;rw[oK (by omega) (by omega),hl,oK (by omega) (MS _ (by omega))]at z2;refine⟨(i+j)%A.length,z1,?_⟩;rw[Nat.add_mod_mod]at z2;rw[QE,show i+j+1=i+(1+j)by omega];exact z2
theorem zv:∀(l r:List Nat),LR (fun a b=>D.tup [a,b]) (l.map nD) (r.map nD)=(l.zip r).map fun p=>D.tup [nD p.1,nD p.2]
|[],_=>rfl
|_::_,[]=>rfl
|a::l,b::r=>by show D.tup [nD a,nD b]::LR _ (l.map nD) (r.map nD)=_;rw[zv l r];rfl
theorem EV{fa fb:FE}{r:al}{d e:D}{ds es:List D}(h1:fa r=.ok d)(h2:fb r=.ok e)(h3:bv d=some ds)(h4:bv e=some es):jl fa fb r=.ok (LR (fun a b=>D.tup [a,b]) ds es):=by unfold jl;rw[h1,bind_ok,h2,bind_ok,h3,opt_some,bind_ok,h4,opt_some,bind_ok]
theorem Jg{owns:List (Option Nat)}{A:List Nat}{t:Nat->Nat}(hA:A≠[])(hl:A.length<=60)(ho:∀h∈A,h<owns.length)(hn:∀i h l,A[i]? = some h->A[(i+1)%A.length]? = some l->own owns l=some (t h)):∃k,k∈A/\(∀x∈A,k<=x)/\qf [OD owns,LN A]=.ok (aQ t (A.drop (A.idxOf k)++A.take (A.idxOf k))):=by
 obtain⟨k,k1,k2,k3⟩:=rC hA;have hi:=L4 k1;refine⟨k,k1,k2,cm (B:=tY) (n:=4) ?_⟩;generalize hi':A.idxOf k=i at hi;have hlen:(A.drop i++A.take i).length=A.length:=by rw[I_,KR,K5];omega
 have hpos:=Mr.mpr hA;unfold tY;refine(ar (aZ (d:=nD i) (n0 (d:=LN A) rfl rfl (aj (bV (aj (d:=LN A) rfl ap) k3) ap) (by rw[r6 k1,hi'])))).trans ?_;refine(ar (aZ (av (js (d:=LN A) rfl (iX (i:=(i:Int)) rfl) rfl (rE (by omega))) (js (d:=LN A) rfl rfl (iX (i:=(i:Int)) rfl) (wL A i)) (wZ (by simp;omega))))).trans ?_;have hm:∀p∈(A.drop i++A.take i).zip (jf (A.drop i++A.take i)),p.2∈A/\own owns p.2=some (t p.1):=fun p hp=>by obtain⟨j,hj⟩:=Ly hp;obtain⟨q,q1,q2⟩:=Fj hi (h:=p.1) (l:=p.2) hj;exact⟨Lh q2,hn q p.1 p.2 q1 q2⟩
 refine br (bP (bV (aj (f8 (l:=(A.drop i++A.take i).zip (jf (A.drop i++A.take i))) (fun p=>D.tup [nD p.1,nD p.2]) (fun _=>true) (fun p=>bW t p.1) ?_ ?_ fun p hp=>⟨[some (nD p.1),some (nD p.2),some (OD owns)],rfl,rfl,fun _=>?_⟩) ap) ?_))
 .rw[<-zv];exact EV (d:=LN (A.drop i++A.take i)) rfl (aP (aj (d:=LN (A.drop i++A.take i)) rfl ap) (I0 (by omega) (by omega))) rfl rfl
 .rw[O7];omega
 .obtain⟨p1,p2⟩:=hm p hp;have:=xm (ho p.2 p1);rw[p2]at this;exact fT (aj (d:=nD p.1) rfl (aj (av (a:=OD owns) (b:=nD p.2) rfl rfl (d9 this)) ap)) (by simp)
 .rw[kh,e_tupL];show some (D.tup _)=some (D.tup _);congr 2;rw[show(fun p:Nat×Nat=>bW t p.1)=bW t∘Prod.fst from rfl,<-Kx];congr 1;rw[List.map_fst_zip];simp;omega
theorem yQ{A:List Nat}{z:Nat}(h:A[A.length-1]? = some z):aW (LN A) (.int (-1))=some (nD z):=by have hl:A.length-1<A.length:=(c_.mp h).1;show d6 (A.map nD) (-1)=some (nD z);unfold d6 fW;rw[if_neg (by omega),if_pos (by rw[l_];omega),l_];show(A.map nD)[(-1+(A.length:Int)).toNat]? = _;rw[show(-1+(A.length:Int)).toNat=A.length-1 by omega,x_,h];rfl
section
variable{rz:List (List Nat)}{owns:List (Option Nat)}{s:Rg.S}{A:List Nat}{z:Nat}
abbrev gG(owns:List (Option Nat))(s:Rg.S)(x:Nat):Option Nat:=s.line.find? fun h=>decide (own owns h=some x)
theorem rW(S:Snd rz owns s)(hz:A[A.length-1]? = some z)(hm:z∈s.line)(s2:FS):(aa (ao cA 5 (f2 (gv 4) (f1 (ci 1) fB) aW)) (aa (ao cA 6 (az (ag (f2 (gv 0) (gv 5) aW) (ag (gv 3) ae)) [] jG)) (aa (ao cA 7 (az (ag (gv 1) (ag (gv 2) (ag (gv 6) ae))) [] kj)) s2))) [some (WD rz),some (OD owns),some (LN s.line),some (LN s.things),some (LN A),none,none,none]
  = s2 [some (WD rz),some (OD owns),some (LN s.line),some (LN s.things),some (LN A),some (nD z),some (nD (tS rz s z)),some (oD (gG owns s (tS rz s z)))]:=by refine(ar (aZ (d:=nD z) (av (a:=LN A) (b:=.int (-1)) rfl rfl (yQ hz)))).trans ?_;refine(ar (aZ (aP (aj (av (a:=WD rz) (b:=nD z) rfl rfl (d9 (xz (S.inr z hm)))) (aj (d:=LN s.things) rfl ap)) (S.tg hm)))).trans ?_;exact ar (aZ (aP (aj (d:=OD owns) rfl (aj (d:=LN s.line) rfl (aj (d:=nD (tS rz s z)) rfl ap))) (zJ S.ino)))
abbrev qm(rz:List (List Nat))(owns:List (Option Nat))(s:Rg.S)(A:List Nat)(z:Nat):al:=[some (WD rz),some (OD owns),some (LN s.line),some (LN s.things),some (LN A),some (nD z),some (nD (tS rz s z)),some (oD (gG owns s (tS rz s z)))]
theorem wM(S:Snd rz owns s):(aN (f2 (gv 7) (fun _=>Res.ok D.non) iG)) (qm rz owns s A z)=.ok (decide (gG owns s (tS rz s z)=none)):=bN (av rfl rfl (wE _))
theorem wN(S:Snd rz owns s):(aN (f2 (gv 7) (gv 5) eqD)) (qm rz owns s A z)=.ok (decide (gG owns s (tS rz s z)=some z)):=bN (av rfl (b:=nD z) rfl (wu _ _))
theorem A8(S:Snd rz owns s)(hz:A[A.length-1]? = some z)(hm:z∈s.line)(h:gG owns s (tS rz s z)=none\/gG owns s (tS rz s z)=some z):iE [WD rz,OD owns,LN s.line,LN s.things,LN A]=.ok (.tup [.str "takes",nD z,nD (tS rz s z)]):=by
 refine cm (B:=km) (n:=8) ?_;unfold km;refine(rW S hz hm _).trans ?_;have t1:=wM (A:=A) (z:=z) S;have t2:=wN (A:=A) (z:=z) S;refine br ((cW ?_).trans (br (bP (fT (aj (d:=.str "takes") rfl (aj (d:=nD z) rfl (aj (d:=nD (tS rz s z)) rfl ap))) (by simp)))));rcases h with h|h
 .rw[decide_eq_true h]at t1;exact vL t1
 .rw[decide_eq_false (by rw[h];simp)]at t1;rw[decide_eq_true h]at t2;exact(gp t1).trans t2
theorem zP(S:Snd rz owns s){l:Nat}(h:gG owns s (tS rz s z)=some l)(hl:l≠z)(s2:FS):(aa (cM cA (gq (aN (f2 (gv 7) (fun _=>Res.ok D.non) iG)) (aN (f2 (gv 7) (gv 5) eqD))) (aa (ax cA (dv (ag (fun _=>Res.ok (D.str "takes")) (ag (gv 5) (ag (gv 6) ae))))) ay) ay) s2) (qm rz owns s A z)=s2 (qm rz owns s A z):=by have t1:=wM (A:=A) (z:=z) S;have t2:=wN (A:=A) (z:=z) S;rw[decide_eq_false (by rw[h];simp)]at t1;rw[decide_eq_false (by rw[h];simpa using hl)]at t2;exact ar ((bU ((gp t1).trans t2)).trans (e_skip _))
theorem JW(S:Snd rz owns s)(hz:A[A.length-1]? = some z)(hm:z∈s.line){l:Nat}(h:gG owns s (tS rz s z)=some l)(hl:l≠z)(hn:l∉A):iE [WD rz,OD owns,LN s.line,LN s.things,LN A]=.ok (.tup [.str "ahead",nD l,nD (tS rz s z)]):=by refine cm (B:=km) (n:=8) ?_;unfold km;refine(rW S hz hm _).trans ((zP S h hl _).trans ?_);show aa _ _ [some (WD rz),some (OD owns),some (LN s.line),some (LN s.things),some (LN A),some (nD z),some (nD (tS rz s z)),some (oD (gG owns s (tS rz s z)))]=_;rw[h];have t3:=bN (av (f:=gv 7) (f':=gv 4) (r:=[some (WD rz),some (OD owns),some (LN s.line),some (LN s.things),some (LN A),some (nD z),some (nD (tS rz s z)),some (nD l)]) (a:=nD l) (b:=LN A) rfl rfl (mH A l));rw[decide_eq_false hn]at t3;exact br ((cW t3).trans (br (bP (fT (aj (d:=.str "ahead") rfl (aj (d:=nD l) rfl (aj (d:=nD (tS rz s z)) rfl ap))) (by simp)))))
theorem Ii(S:Snd rz owns s)(c:Rg.Chain (Wr rz) (own owns) s A)(hz:A[A.length-1]? = some z){i l:Nat}(hi:A[i]? = some l)(hO:own owns l=some (tS rz s z)):∀j h k,(A.drop i)[j]? = some h->(A.drop i)[(j+1)%(A.drop i).length]? = some k->own owns k=some (tS rz s h):=by
 intro j h k e1 e2;have hil:i<A.length:=(c_.mp hi).1;have hj:=(c_.mp e1).1;rw[KR]at hj e2;rw[L9]at e1;by_cases q:j+1<A.length-i
 .rw[LA q,L9]at e2;exact c.nx (i+j) h k e1 (by rw[show i+j+1=i+(j+1)by omega];exact e2)
 .have:j+1=A.length-i:=by omega
  rw[this,RM,L9,P9,hi]at e2;cases e2;have:i+j=A.length-1:=by omega
  rw[this,hz]at e1;cases e1;exact hO
theorem JL(S:Snd rz owns s)(c:Rg.Chain (Wr rz) (own owns) s A)(hz:A[A.length-1]? = some z){i l:Nat}(h:gG owns s (tS rz s z)=some l)(hl:l≠z)(hi:A.idxOf l=i)(hm:l∈A)(h60:A.length<=60):∃k,k∈A.drop i/\iE [WD rz,OD owns,LN s.line,LN s.things,LN A]=.ok (.tup [.str "ring",aQ (tS rz s) ((A.drop i).drop ((A.drop i).idxOf k)++(A.drop i).take ((A.drop i).idxOf k))]):=by
 have hil:i<A.length:=by rw[<-hi];exact L4 hm
 have hil':A[i]? = some l:=by rw[d_ hil];congr 1;have:=M9 (L4 hm);subst hi;exact this
 have hO:own owns l=some (tS rz s z):=by have:=MF h;simpa using this
 obtain⟨k,k1,_,k2⟩:=Jg (owns:=owns) (A:=A.drop i) (t:=tS rz s) (Ob (by rw[KR];omega)) (by rw[KR];omega) (fun h hh=>S.ino h (c.sub h (Nz hh))) (Ii S c hz hil' hO);refine⟨k,k1,cm (B:=km) (n:=8) ?_⟩;unfold km;refine(rW S hz (c.sub z (c.at hz)) _).trans ((zP S h hl _).trans ?_);show aa _ _ [some (WD rz),some (OD owns),some (LN s.line),some (LN s.things),some (LN A),some (nD z),some (nD (tS rz s z)),some (oD (gG owns s (tS rz s z)))]=_;rw[h];have t3:=bN (av (f:=gv 7) (f':=gv 4) (r:=[some (WD rz),some (OD owns),some (LN s.line),some (LN s.things),some (LN A),some (nD z),some (nD (tS rz s z)),some (nD l)]) (a:=nD l) (b:=LN A) rfl rfl (mH A l));rw[decide_eq_true hm]at t3;refine(ar ((bU t3).trans (e_skip _))).trans ?_;refine br (bP (fT (aj (d:=.str "ring") rfl (aj (aP (aj (d:=OD owns) rfl (aj (d:=LN (A.drop i)) (js (d:=LN A) rfl (iX (i:=(i:Int)) (n0 (d:=LN A) rfl rfl (aj (d:=nD l) rfl ap) (by rw[r6 hm,hi]))) rfl (rE (by omega))) ap)) k2) ap)) (by simp)))
inductive Dd where
 |tk (h:Nat)|ah (h x:Nat)|rg (r:List Nat)
def Dd.hands:Dd->List Nat
|.tk h=>[h]
|.ah _ _=>[]
|.rg r=>r
def cw(a:Nat->Nat):Dd->D
|.tk h=>.tup [.str "takes",nD h,nD (a h)]
|.ah h x=>.tup [.str "ahead",nD h,nD x]
|.rg r=>.tup [.str "ring",aQ a r]
theorem zK(a:Nat->Nat)(d:Dd):lI [cw a d]=.ok (aQ a d.hands):=by refine cm (B:=sH) (n:=1) ?_;unfold sH;cases d with
|tk h=>refine(ar ((bU (bN (av (a:=.str "takes") (b:=.str "ahead") (av (a:=cw a (.tk h)) (b:=.int 0) rfl rfl (ixA_T0 _ _)) rfl (d:=.bl false) (by unfold eqD;rw[eqB_str];rfl)))).trans (e_skip _))).trans ?_;refine br (bP ((qB (bN (av (a:=.str "takes") (b:=.str "ring") (av (a:=cw a (.tk h)) (b:=.int 0) rfl rfl (ixA_T0 _ _)) rfl (d:=.bl false) (by unfold eqD;rw[eqB_str];rfl)))).trans ?_));exact fT (aj (js (d:=cw a (.tk h)) (d':=.tup [nD h,nD (a h)]) rfl (iX (i:=1) rfl) rfl rfl) ap) (by simp[Dd.hands])
|ah h x=>exact br ((cW (bN (av (a:=.str "ahead") (b:=.str "ahead") (av (a:=cw a (.ah h x)) (b:=.int 0) rfl rfl (ixA_T0 _ _)) rfl (d:=.bl true) (by unfold eqD;rw[eqB_str];rfl)))).trans (br (bP (fT ap (by simp[Dd.hands])))))
|rg r=>refine(ar ((bU (bN (av (a:=.str "ring") (b:=.str "ahead") (av (a:=cw a (.rg r)) (b:=.int 0) rfl rfl (ixA_T0 _ _)) rfl (d:=.bl false) (by unfold eqD;rw[eqB_str];rfl)))).trans (e_skip _))).trans ?_;refine br (bP ((qC (bN (av (a:=.str "ring") (b:=.str "ring") (av (a:=cw a (.rg r)) (b:=.int 0) rfl rfl (ixA_T0 _ _)) rfl (d:=.bl true) (by unfold eqD;rw[eqB_str];rfl)))).trans ?_));exact av (a:=cw a (.rg r)) (b:=nD 1) rfl rfl (d9 rfl)
theorem Aw{A:List Nat}(h:A.Nodup)(i:Nat){C:List Nat}(hC:∀x,x∈C↔x∈A.drop i):(A.filter fun x=>decide (x∉C))=A.take i:=by
 have h':(A.take i++A.drop i).Nodup:=by rw[LM];exact h
 conv=>lhs;rw[<-LM i A]
 rw[List.filter_append];have e1:((A.take i).filter fun x=>decide (x∉C))=A.take i:=Pr.mpr fun x hx=>by simp only[decide_eq_true_eq];rw[hC];exact fun z=>(Lm.mp h').2.2 x hx x z rfl
 have e2:((A.drop i).filter fun x=>decide (x∉C))=[]:=O2.mpr fun x hx=>by simp only[decide_eq_true_eq,Classical.not_not];exact(hC x).mpr hx
 rw[e1,e2,KA]
theorem zZ{W:Nat->List Nat}{C E:List Nat}(h:∀x,x∈C↔x∈E):Rg.minus W s C=Rg.minus W s E:=by
 unfold Rg.minus;congr 1
 .exact Rg.iC fun x _=>by rw[Kv];simp[h x]
 .refine Rg.iC fun x _=>?_;rw[Kv];simp only[decide_eq_true_eq];have:x∈C.map (Rg.bj W s)↔x∈E.map (Rg.bj W s):=by simp only[r_,h]
  rw[this]
end
theorem AL:∀{l m:List Nat},l.Nodup->m.Nodup->(∀x,x∈l↔x∈m)->l.Perm m
|[],m,_,_,h=>by cases m with
 |nil=>exact .nil
 |cons a m=>exact absurd ((h a).mpr j_) (fun z=>nomatch z)
|a::l,m,hl,hm,h=>by
  have ha:a∈m:=(h a).mp j_;have hl':=KW.mp hl;refine(List.Perm.cons a (AL hl'.2 (hm.erase a) fun x=>?_)).trans (NA ha).symm;constructor
  .intro hx;have hne:x≠a:=by rintro rfl;exact hl'.1 hx
   exact(Ny hne).mpr ((h x).mp (k_ _ hx))
  .intro hx;obtain⟨h1,h2⟩:=(Ov hm).mp hx;exact(z_.mp ((h x).mpr h2)).resolve_left h1
theorem AN{l C:List Nat}(hl:l.Nodup)(hC:C.Nodup)(hs:∀x∈C,x∈l):(C++l.filter fun x=>decide (x∉C)).Perm l:=by
 refine AL (Lm.mpr ⟨hC,Rg.kl hl,fun a ha b hb=>?_⟩) hl fun x=>?_
 .rintro rfl
  have:=(w_.mp hb).2;simp only[decide_eq_true_eq]at this;exact this ha
 .rw[KU,w_];simp only[decide_eq_true_eq];constructor
  .rintro(h|h)
   .exact hs x h
   .exact h.1
  .intro h;by_cases c:x∈C
   .exact .inl c
   .exact .inr ⟨h,c⟩
section
variable{rz:List (List Nat)}{owns:List (Option Nat)}{s:Rg.S}{A A1 A2:List Nat}{a:Nat->Nat}
def kQ(dd:Dd)(A:List Nat):List Nat:=match dd with
|.ah h _=>A++[h]
|_=>A
abbrev mA:List Md:=cU
theorem EJ(S:Snd rz owns s)(od:D){told:List D}{x7 x8 x9:Option D}{dd:Dd}(hne:s.line≠[])(hA1:A1=if A=[]then[s.line.headD 0]else A)(h60:A1.length<=60)(ht:told.length<=900)(hd:iE [WD rz,OD owns,LN s.line,LN s.things,LN A1]=.ok (cw a dd))(hs:∀h∈dd.hands,h∈s.line) :
  ∃y8 y9,sy [some (WD rz),some (OD owns),some od,some (LN s.line),some (LN s.things),some (LN A),some (.lst told),x7,x8,x9]
   = .nx [some (WD rz),some (OD owns),some od,some (LN (s.line.filter fun h=>decide (h∉dd.hands))),some (LN (s.things.filter fun x=>decide (x∉dd.hands.map a))),some (LN ((kQ dd A1).filter fun h=>decide (h∉dd.hands))),some (.lst (told++[cw a dd])),some (cw a dd),y8,y9]:=by
 obtain⟨kvs,g,hg⟩:=oN (t:=a) (line:=s.line) (rs:=[dd.hands]) S.nl (by simpa using hs);rw[show[dd.hands].flatten=dd.hands by simp]at g;refine⟨some (KD kvs),some (LN (kvs.map (·.2))),?_⟩;refine(ar (r':=[some (WD rz),some (OD owns),some od,some (LN s.line),some (LN s.things),some (LN A1),some (.lst told),x7,x8,x9]) ?_).trans ?_
 .cases hA:A with
 |nil=>rw[hA,if_pos rfl]at hA1;subst hA1;refine(cW (jA (b:=false) (gL (d:=LN []) rfl rfl))).trans ?_;refine(ar (aZ (d:=LN [s.line.headD 0]) (fR (ds:=[nD (s.line.headD 0)]) (aj (av (a:=LN s.line) (b:=.int 0) rfl rfl ?_) ap) (by simp)))).trans rfl;cases e:s.line with
  |nil=>exact absurd e hne
  |cons b t=>exact ixA_L0 _ _
 |cons b t=>rw[hA,if_neg (by simp)]at hA1;subst hA1;exact(bU (jA (b:=true) (gL (d:=LN (b::t)) rfl rfl))).trans rfl
 refine(ar (aZ (aP (aj (d:=WD rz) rfl (aj (d:=OD owns) rfl (aj (d:=LN s.line) rfl (aj (d:=LN s.things) rfl (aj (d:=LN A1) rfl ap))))) hd))).trans ?_;refine(ar (gI (d:=.lst told) (ds:=[cw a dd]) rfl rfl (aj (d:=cw a dd) rfl ap) (ka (by omega)))).trans ?_;refine(ar (r':=[some (WD rz),some (OD owns),some od,some (LN s.line),some (LN s.things),some (LN (kQ dd A1)),some (.lst (told++[cw a dd])),some (cw a dd),x8,x9]) ?_).trans ?_
 .cases dd with
 |tk h=>exact(bU (bN (av (a:=.str "takes") (b:=.str "ahead") (av (a:=cw a (.tk h)) (b:=.int 0) rfl rfl (ixA_T0 _ _)) rfl (d:=.bl false) (by unfold eqD;rw[eqB_str];rfl)))).trans rfl
 |rg r=>exact(bU (bN (av (a:=.str "ring") (b:=.str "ahead") (av (a:=cw a (.rg r)) (b:=.int 0) rfl rfl (ixA_T0 _ _)) rfl (d:=.bl false) (by unfold eqD;rw[eqB_str];rfl)))).trans rfl
 |ah h x=>refine(cW (bN (av (a:=.str "ahead") (b:=.str "ahead") (av (a:=cw a (.ah h x)) (b:=.int 0) rfl rfl (ixA_T0 _ _)) rfl (d:=.bl true) (by unfold eqD;rw[eqB_str];rfl)))).trans ?_;refine(ar (gI (d:=LN A1) (ds:=[nD h]) rfl rfl (aj (av (a:=cw a (.ah h x)) (b:=nD 1) rfl rfl (d9 rfl)) ap) (ka (by simp;omega)))).trans ?_;show Out.nx [_,_,_,_,_,some (D.lst (A1.map nD++[nD h])),_,_,_,_]=Out.nx [_,_,_,_,_,some (D.lst ((A1++[h]).map nD)),_,_,_,_];rw[KJ];rfl
 have h61:(kQ dd A1).length<=61:=by cases dd <;> simp[kQ] <;> omega
 refine(ar (aZ (aP (aj (fR (aj (aP (aj (d:=cw a dd) rfl ap) (zK a dd)) ap) (by simp)) ap) hg))).trans ?_;refine(ar (aZ (d:=LN (kvs.map (·.2))) (mh (a:=KD kvs) rfl ?_))).trans ?_
 .rw[e_valsD,Kx];show some (D.lst _)=some (D.lst ((kvs.map (·.2)).map nD));rw[Kx];rfl
 refine(ar (aZ (f8 (l:=s.line) nD (fun h=>decide (h∉dd.hands)) nD rfl (by have:=S.nl;omega) fun h hh=>⟨[some (nD h),some (KD kvs)],rfl,bN (av (a:=nD h) (b:=KD kvs) rfl rfl (qx g h)),fun _=>rfl⟩))).trans ?_;refine(ar (aZ (f8 (l:=kQ dd A1) nD (fun h=>decide (h∉dd.hands)) nD rfl (by omega) fun h hh=>⟨[some (nD h),some (KD kvs)],rfl,bN (av (a:=nD h) (b:=KD kvs) rfl rfl (qx g h)),fun _=>rfl⟩))).trans ?_;refine(ar (aZ (f8 (l:=s.things) nD (fun x=>decide (x∉dd.hands.map a)) nD rfl (by have:=S.nt;omega) fun h hh=>⟨[some (nD h),some (LN (kvs.map (·.2)))],rfl,bN (av (a:=nD h) (b:=LN (kvs.map (·.2))) rfl rfl (wp g h)),fun _=>rfl⟩))).trans ?_;rfl
theorem xF{s':Rg.S}(S:Snd rz owns s)(k:Rg.Ok (Wr rz) (own owns) s')(hl:∀h∈s'.line,h∈s.line)(h1:s'.line.length<=s.line.length)(h2:s'.things.length<=s.things.length):Snd rz owns s':=⟨k,fun h hh=>S.inr h (hl h hh),fun h hh=>S.ino h (hl h hh),fun h hh=>S.wid h (hl h hh),KF h1 S.nl,KF h2 S.nt⟩
theorem Gk(S:Snd rz owns s)(t:Rg.TTC (Wr rz) (own owns) a s)(c:Rg.Chain (Wr rz) (own owns) s A1)(hA:A1≠[])(h60:A1.length<=60):∃(dd:Dd)(s':Rg.S)(A':List Nat),iE [WD rz,OD owns,LN s.line,LN s.things,LN A1]=.ok (cw a dd)/\(∀h∈dd.hands,h∈s.line)/\dd.hands.Nodup/\s'=⟨s.line.filter fun h=>decide (h∉dd.hands),s.things.filter fun x=>decide (x∉dd.hands.map a)⟩/\A'=(kQ dd A1).filter (fun h=>decide (h∉dd.hands)) /\Snd rz owns s'/\Rg.TTC (Wr rz) (own owns) a s'/\Rg.Chain (Wr rz) (own owns) s' A'/\2*s'.line.length+A1.length+1<=2*s.line.length+A'.length:=by
 have hp:=Mr.mpr hA;have hz:A1[A1.length-1]? = some A1[A1.length-1]:=d_ (by omega);generalize A1[A1.length-1]=z at hz;have hzm:=c.sub z (c.at hz);have hAl:A1.length<=s.line.length:=Rg.iW c.nd c.sub;have len:∀{C:List Nat},C.Nodup->(∀h∈C,h∈s.line)->(s.line.filter fun h=>decide (h∉C)).length+C.length=s.line.length:=fun hC hs=>by have:=(AN S.ok.nl hC hs).length_eq;rw[I_]at this;omega
 have things:∀{C:List Nat},(∀h∈C,a h=tS rz s h)->C.map a=C.map (tS rz s):=fun h=>KI h;have tk:∀{s':Rg.S}{A':List Nat},s'=Rg.minus (Wr rz) s [z]->A'=A1.take (A1.length-1)->a z=tS rz s z->iE [WD rz,OD owns,LN s.line,LN s.things,LN A1]=.ok (.tup [.str "takes",nD z,nD (tS rz s z)])->Rg.Ok (Wr rz) (own owns) s'->Rg.TTC (Wr rz) (own owns) a s'->Rg.Chain (Wr rz) (own owns) s' A' ->∃(dd:Dd)(s':Rg.S)(A':List Nat),iE [WD rz,OD owns,LN s.line,LN s.things,LN A1]=.ok (cw a dd)/\(∀h∈dd.hands,h∈s.line)/\dd.hands.Nodup/\s'=⟨s.line.filter fun h=>decide (h∉dd.hands),s.things.filter fun x=>decide (x∉dd.hands.map a)⟩/\A'=(kQ dd A1).filter (fun h=>decide (h∉dd.hands)) /\Snd rz owns s'/\Rg.TTC (Wr rz) (own owns) a s'/\Rg.Chain (Wr rz) (own owns) s' A'/\2*s'.line.length+A1.length+1<=2*s.line.length+A'.length:=by
  intro s' A' es eA ea hd k' t' c';have hz1:∀h∈[z],h∈s.line:=fun h hh=>by rw[t_.mp hh];exact hzm
  have l1:=len (C:=[z]) (by simp) hz1;have ll:s'.line.length+1=s.line.length:=by rw[es];exact l1
  refine⟨.tk z,s',A',by rw[hd];show _=Res.ok (D.tup [.str "takes",nD z,nD (a z)]);rw[ea],hz1,by simp[Dd.hands],?_,?_,xF S k' (fun h hh=>by rw[es]at hh;exact(w_.mp hh).1) (by omega) (by rw[es];exact Ln _ _),t',c',?_⟩
  .rw[es];show(⟨_,s.things.filter fun x=>decide (x∉[z].map (tS rz s))⟩:Rg.S)=⟨_,s.things.filter fun x=>decide (x∉[z].map a)⟩
   rw[things (C:=[z]) fun h hh=>by rw[t_.mp hh];exact ea];rfl
  .rw[eA];refine(Aw c.nd (A1.length-1) fun x=>?_).symm;constructor
   .intro hx;have:=t_.mp hx;subst this;exact Rg.oR (q_ _) hz
   .intro hx;obtain⟨j,h1,h2⟩:=Rg.mT hx;have hj:=(c_.mp h2).1;have:j=A1.length-1:=by omega
    subst this;rw[hz]at h2;cases h2;exact t_.mpr rfl
  .rw[eA,K5];omega
 cases hf:gG owns s (tS rz s z)with
|none=>
  obtain⟨k',t',c',ea⟩:=Rg.BY t S.ok c hz fun h hh=>by simpa using KO.mp hf h hh
  exact tk rfl rfl ea (A8 S hz hzm (.inl hf)) k' t' c'
|some l=>
  have hO:own owns l=some (tS rz s z):=by simpa using MF hf
  have hll:=Mc hf;by_cases hlz:l=z
  .subst hlz;obtain⟨k',t',c',ea,cy⟩:=Rg.wf t S.ok c hz hz hO;have ed:∀x,x∈A1.drop (A1.length-1)↔x∈[l]:=fun x=>by
    constructor
    .intro hx;obtain⟨j,h1,h2⟩:=Rg.mT hx;have hj:=(c_.mp h2).1;have:j=A1.length-1:=by omega
     subst this;rw[hz]at h2;cases h2;exact t_.mpr rfl
    .intro hx;rw[t_.mp hx];exact Rg.oR (q_ _) hz
   exact tk (zZ ed) rfl (ea l ((ed l).mpr (t_.mpr rfl))) (A8 S hz hzm (.inr hf)) k' t' c'
  .by_cases hm:l∈A1
   .obtain⟨k,k1,hd⟩:=JL S c hz hf hlz rfl hm h60;have hil:=L4 hm;have hi:A1[A1.idxOf l]? = some l:=by rw[d_ hil];congr 1;exact M9 hil
    obtain⟨k',t',c',ea,cy⟩:=Rg.wf t S.ok c hz hi hO;generalize A1.idxOf l=i at hd hil k' t' c' ea cy k1;generalize hr:(A1.drop i).drop ((A1.drop i).idxOf k)++(A1.drop i).take ((A1.drop i).idxOf k)=r at hd;have hperm:r.Perm (A1.drop i):=by rw[<-hr];exact Pb.trans (by rw[LM])
    have hrm:∀x,x∈r↔x∈A1.drop i:=fun x=>hperm.mem_iff;have er:aQ (tS rz s) r=aQ a r:=by show D.tup _=D.tup _;congr 1;refine KI fun x hx=>?_;show D.tup [nD x,nD _]=D.tup [nD x,nD _];rw[ea x ((hrm x).mp hx)]
    have hrs:∀h∈r,h∈s.line:=fun h hh=>c.sub h (Nz ((hrm h).mp hh));have hrn:r.Nodup:=hperm.nodup_iff.mpr (c.nd.sublist (List.drop_sublist _ _));have l1:=len hrn hrs;have l2:r.length=A1.length-i:=by rw[hperm.length_eq,KR]
    have e':Rg.minus (Wr rz) s (A1.drop i)=Rg.minus (Wr rz) s r:=zZ fun x=>(hrm x).symm;have ll:(Rg.minus (Wr rz) s (A1.drop i)).line.length+r.length=s.line.length:=by rw[e'];exact l1
    refine⟨.rg r,_,_,by rw[hd];show Res.ok (D.tup [.str "ring",aQ (tS rz s) r])=Res.ok (D.tup [.str "ring",aQ a r]);rw[er],hrs,hrn,?_,?_,xF S k' (fun h hh=>(w_.mp hh).1) (by omega) (Ln _ _),t',c',?_⟩
    .rw[e'];show(⟨_,s.things.filter fun x=>decide (x∉r.map (tS rz s))⟩:Rg.S)=⟨_,s.things.filter fun x=>decide (x∉r.map a)⟩
     rw[things (C:=r) fun h hh=>ea h ((hrm h).mp hh)];rfl
    .exact(Aw c.nd i hrm).symm
    .rw[K5];omega
   .have c':=Rg.B2 c hz hll hm hO;refine⟨.ah l (tS rz s z),s,A1++[l],JW S hz hzm hf hlz hm,fun h hh=>(nomatch hh),N8,?_,?_,S,t,c',by rw[I_,MI];omega⟩
    .show s=⟨s.line.filter fun h=>decide (h∉[]),s.things.filter fun x=>decide (x∉[])⟩
     simp[kh]
    .show _=(A1++[l]).filter fun h=>decide (h∉[]);simp[kh]
theorem EK(od:D):∀(j:Nat)(s:Rg.S)(A:List Nat)(told:List D)(x7 x8 x9:Option D),Snd rz owns s->Rg.TTC (Wr rz) (own owns) a s->Rg.Chain (Wr rz) (own owns) s A->2*s.line.length<j+A.length->told.length+2*s.line.length<=300+A.length ->
  ∃(s':Rg.S)(A':List Nat)(l:List Dd)(x7' x8' x9':Option D),(l.flatMap Dd.hands).Perm s.line/\l.length+A.length<=2*s.line.length /\
   dH mA z8 sy j [some (WD rz),some (OD owns),some od,some (LN s.line),some (LN s.things),some (LN A),some (.lst told),x7,x8,x9]
    = .nx [some (WD rz),some (OD owns),some od,some (LN s'.line),some (LN s'.things),some (LN A'),some (.lst (told++l.map (cw a))),x7',x8',x9']:=by
 intro j
 induction j with
|zero=>intro s A told x7 x8 x9 S t c h;have:=Rg.iW c.nd c.sub;omega
|succ j ih=>
  intro s A told x7 x8 x9 S t c hj ht;have hAl:A.length<=s.line.length:=Rg.iW c.nd c.sub;have hnl:=S.nl;by_cases hne:s.line=[]
  .refine⟨s,A,[],x7,x8,x9,by rw[hne];exact .nil,by simp;omega,?_⟩;rw[LC,KA];refine oB (gL (d:=LN s.line) rfl ?_);rw[hne];rfl
  .have hpos:=Mr.mpr hne;generalize hA1:(if A=[]then[s.line.headD 0]else A)=A1;have c1:Rg.Chain (Wr rz) (own owns) s A1:=by
    rw[<-hA1];split
    .exact Rg.Ds hne
    .exact c
   have hA1n:A1≠[]:=by
    rw[<-hA1];split
    .simp
    .assumption
   have hA1l:A.length<=A1.length:=by
    rw[<-hA1];split
    .rename_i e;rw[e];simp
    .exact q_ _
   have hA1s:A1.length<=s.line.length:=Rg.iW c1.nd c1.sub;obtain⟨dd,s1,A2,hd,hs,hn,es,eA,S',t',c',hm⟩:=Gk S t c1 hA1n (by omega);obtain⟨y8,y9,hb⟩:=EJ (told:=told) (x7:=x7) (x8:=x8) (x9:=x9) S od hne hA1.symm (by omega) (by omega) hd hs;obtain⟨s',A',l,x7',x8',x9',h1,h2,h3⟩:=ih s1 A2 (told++[cw a dd]) (some (cw a dd)) y8 y9 S' t' c' (by omega) (by rw[I_];simp;omega);refine⟨s',A',dd::l,x7',x8',x9',?_,by simp;omega,?_⟩
   .rw[P_];have e1:s1.line=s.line.filter fun h=>decide (h∉dd.hands):=by rw[es]
    rw[e1]at h1;exact(List.Perm.append_left _ h1).trans (AN S.ok.nl hn hs)
   .rw[K8]at h3;rw[B_];refine RZ (oC (gL (b:=true) (d:=LN s.line) rfl ?_) ?_) h3
    .cases q:s.line with
    |nil=>exact absurd q hne
    |cons b t=>rfl
    .rw[hb,es,eA]
theorem Iu{o:Option (List Nat)}(ho:∀l,o=some l->l.Nodup/\(∀k∈l,k<rz.length)/\l.length=rz.length)(hr:rz≠[])(h8:rz.length<=30)(S:Snd rz owns (s0 rz o))(h30:(s0 rz o).line.length<=30)(t:Rg.TTC (Wr rz) (own owns) a (s0 rz o)):∃l:List Dd,(l.flatMap Dd.hands).Perm (s0 rz o).line/\l.length<=60/\oP [WD rz,OD owns,cJ o]=.ok (.lst (l.map (cw a))):=by obtain⟨s',A',l,x7',x8',x9',h1,h2,h3⟩:=EK (rz:=rz) (owns:=owns) (a:=a) (cJ o) 64 (s0 rz o) [] [] none none none S t Rg.Dr (by simp;omega) (by simp;omega);refine⟨l,h1,by simp at h2;omega,cm (B:=oO) (n:=10) ?_⟩;unfold oO;cases rz with
|nil=>exact absurd rfl hr
|cons row rest=>refine(ar (aZ (aP (aj (d:=WD (row::rest)) rfl (aj (d:=cJ o) rfl ap)) (AA ho (by omega))))).trans ?_;refine(ar (aZ (d:=LN (s0 (row::rest) o).things) (bV (aj (aP (aj (d:=WD (row::rest)) rfl ap) AC) ap) (rR (by have:=S.nt;unfold s0 at this;simp at this;omega))))).trans ?_;refine(ar (aZ (d:=.lst []) (fR ap (by simp)))).trans ?_;refine(ar (aZ (d:=.lst []) (fR ap (by simp)))).trans ?_;refine(ar h3).trans ?_;exact br (bP (d:=.lst (l.map (cw a))) rfl)
theorem JK{o:Option (List Nat)}(ho:∀l,o=some l->l.Nodup/\(∀k∈l,k<rz.length)/\l.length=rz.length)(hr:rz≠[])(h8:rz.length<=30)(S:Snd rz owns (s0 rz o))(h30:(s0 rz o).line.length<=30)(hall:∀h,h∈(s0 rz o).line↔h<rz.length)(t:Rg.TTC (Wr rz) (own owns) a (s0 rz o)):lO [WD rz,OD owns,cJ o]=.ok (TN ((h_ rz.length).map a)):=by
 obtain⟨l,h1,h2,h3⟩:=Iu ho hr h8 S h30 t;obtain⟨kvs,g,hg⟩:=oN (t:=a) (line:=(s0 rz o).line) (rs:=l.map Dd.hands) S.nl (fun h hh=>h1.mem_iff.mp (by rw[Qn];exact hh));refine cm (B:=pk) (n:=3) ?_;unfold pk;refine br (bP (aP (aj (aP (aj (f8 (l:=l) (cw a) (fun _=>true) (fun d=>aQ a d.hands) (fU (aP (aj (d:=WD rz) rfl (aj (d:=OD owns) rfl (aj (d:=cJ o) rfl ap))) h3) rfl) (by omega) fun d hd=>⟨[some (cw a d)],rfl,rfl,fun _=>aP (aj (d:=cw a d) rfl ap) (zK a d)⟩) ap) ?_) ap) (A7 g (n:=rz.length) (fun x=>?_) (by omega))))
 .rw[kh];show gZ [.lst (l.map fun d=>aQ a d.hands)]=_;rw[show(l.map fun d=>aQ a d.hands)=(l.map Dd.hands).map (aQ a)by rw[Kx];rfl];exact hg
 .rw[<-hall x,<-h1.mem_iff,Qn]
end
end Law
namespace Law
open PySem PyProof.Rows L2 DL Rg
section
variable{rz:List (List Nat)}{owns:List (Option Nat)}{line:List Nat}{n m:Nat}{a:Nat->Nat}{L:List (List (List Nat))}
abbrev bL(a:Nat->Nat)(L:List (List (List Nat))):D:=.lst (L.map fun rs=>.lst (rs.map (aQ a)))
structure Bt(rz:List (List Nat))(owns:List (Option Nat))(line:List Nat)(n m:Nat)(a:Nat->Nat)(L:List (List (List Nat))):Prop where
 S:Scene rz owns (some line) n m
 rd:kd [WD rz,OD owns,LN line]=.ok (bL a L)
 ttc:TTC (Wr rz) (own owns) a (s0 rz (some line))
 all:∀h,h<n->∃rs∈L,h∈rs.flatten
 lt:∀rs∈L,∀h∈rs.flatten,h<n
 len:L.length<=60
 rl:∀rs∈L,rs.length<=60
theorem Dq{s:S}{l:List (List (List Nat)×S)}(c:Ch rz owns s l):(∀p∈l,∀h∈p.1.flatten,a h=tS rz p.2 h)->TTC (Wr rz) (own owns) a s:=by induction c with
|nil e=>exact fun _=>.nil e
|@cons s rs l hne hu hp c ih=>exact fun h=>.step rs.flatten (lB hp) (h (rs,s) j_) (ih fun p hp=>h p (k_ _ hp))
theorem Dp{s:S}{l:List (List (List Nat)×S)}(c:Ch rz owns s l):∀p∈l,p.1.length<=s.line.length:=by induction c with
|nil e=>exact fun _ h=>nomatch h
|@cons s rs l hne hu hp c ih=>
  intro p h;rcases z_.mp h with rfl|h
  .show rs.length<=_;rw[hp.length_eq];exact M7 _ _
  .exact KF (ih p h) (Ln _ _)
theorem qA(S:Scene rz owns (some line) n m)(hch:∀l,Ch rz owns (s0 rz (some line)) l->l.map (·.1)=L/\∀p∈l,∀h∈p.1.flatten,a h=tS rz p.2 h):Bt rz owns line n m a L:=by
 have hn7:=S.n7;obtain⟨l,c,l60,e⟩:=AB S.ord S.ne (by rw[S.rl];omega) S.snd;obtain⟨h1,h2⟩:=hch l c;have t:=Dq c h2;obtain⟨c1,c2⟩:=yo c S.ok t;have mem:∀rs,rs∈L↔∃p∈l,p.1=rs:=fun rs=>by rw[<-h1];exact r_
 refine⟨S,?_,t,fun h hh=>?_,fun rs hr h hh=>?_,by rw[<-h1,l_];exact l60,fun rs hr=>?_⟩
 .refine e.trans ?_;unfold bL;rw[<-h1,Kx];refine congrArg (fun l=>Res.ok (D.lst l)) (KI fun p hp=>?_);show D.lst (p.1.map _)=D.lst (p.1.map _);refine congrArg D.lst (KI fun r hr=>?_);show D.tup (r.map _)=D.tup (r.map _);refine congrArg D.tup (KI fun h hh=>?_);show bW _ h=bW _ h;unfold bW;rw[h2 p hp h (KS.mpr ⟨r,hr,hh⟩)]
 .obtain⟨p,hp,hm⟩:=c2 h (S.mem.mpr hh);exact⟨p.1,(mem _).mpr ⟨p,hp,rfl⟩,hm⟩
 .obtain⟨p,hp,rfl⟩:=(mem rs).mp hr;exact S.mem.mp (c1 p hp h hh).2
 .obtain⟨p,hp,rfl⟩:=(mem rs).mp hr;have:=Dp c p hp;rw[S.line_perm.length_eq,K3]at this;omega
theorem Bt.rings(B:Bt rz owns line n m a L):mY [WD rz,OD owns,LN line]=.ok (TN ((h_ n).map a)):=by have:=Ju B.S.ord B.S.ne (by rw[B.S.rl];have:=B.S.n7;omega) B.S.snd (fun h hh=>B.S.mem.mpr (by rw[<-B.S.rl];exact hh)) B.ttc;rw[B.S.rl]at this;exact this
theorem Bt.asks(B:Bt rz owns line n m a L):lO [WD rz,OD owns,LN line]=.ok (TN ((h_ n).map a)):=by have:=JK B.S.ord B.S.ne (by rw[B.S.rl];have:=B.S.n7;omega) B.S.snd (by rw[B.S.line_perm.length_eq];have:=B.S.n7;simp;omega) (fun h=>by rw[B.S.rl];exact B.S.mem) B.ttc;rw[B.S.rl]at this;exact this
theorem yn{s:S}{l:List (List (List Nat)×S)}(c:Ch rz owns s l)(hne:s.line≠[])(hall:∀h∈s.line,h∈dR (Wr rz) (own owns) s):∃rs,l=[(rs,s)]/\rs.Perm (d7 (Wr rz) (own owns) s)/\ii (tS rz s) rs:=by cases c with
|nil e=>exact absurd e hne
|@cons _ rs l hne hu hp c=>
  have e:(minus (Wr rz) s rs.flatten).line=[]:=by refine O2.mpr fun h hh=>?_;have:h∈rs.flatten:=(Rg.DV hp).mem_iff.mpr (hall h hh);simpa using this
  cases c with
 |nil _=>exact⟨rs,rfl,hp,hu⟩
 |cons hne' _ _ _=>exact absurd e hne'
theorem HZ{t t':Nat->Nat}{rs:List (List Nat)}(h:∀r∈rs,∀x∈r,t x=t' x)(u:ii t rs):ii t' rs:=by
 have k:∀r∈rs,cV t r=cV t' r:=fun r hr=>KI fun x hx=>by rw[h r hr x hx]
 exact u.imp_of_mem fun{a b} ha hb e=>by rw[<-k a ha,<-k b hb];exact e
end
theorem wY(a:Nat->Nat):∀l:List Nat,LR (fun a b=>D.tup [a,b]) (l.map nD) ((l.map a).map nD)=l.map (bW a)
|[]=>rfl
|x::l=>by rw[B_,B_,B_,B_,List.zipWith_cons_cons,wY a l]
theorem Kn{ds:List D}{i:Nat}(h:i<=ds.length):ky (.lst ds) (some (i:Int)) none=some (.lst (ds.drop i)):=by show some (D.lst (bD ds (some (i:Int)) none))=_;unfold bD;rw[HT.cz,HT.bY,O9 h,Nl (by simp)]
theorem Km{ds:List D}{i:Nat}:ky (.lst ds) none (some (i:Int))=some (.lst (ds.take i)):=by show some (D.lst (bD ds none (some (i:Int))))=_;unfold bD;rw[HT.cz,HT.bY,MR,O0];rw[No.mpr (by omega:min (min i ds.length) ds.length=min i ds.length)]
theorem zI(a:Nat->Nat){A:List Nat}(hA:A≠[])(hl:A.length<=60):∃k∈A,(∀x∈A,k<=x)/\lX [LN A,LN (A.map a)]=.ok (aQ a (A.drop (A.idxOf k)++A.take (A.idxOf k))):=by
 obtain⟨k,k1,k2,k3⟩:=rC hA;have hi:A.idxOf k<A.length:=M5.mpr k1;refine⟨k,k1,k2,cm (B:=uF) (n:=4) ?_⟩;unfold uF;refine(ar (aZ (d:=nD (A.idxOf k)) (n0 (d:=LN A) rfl rfl (aj (bV (aj (d:=LN A) rfl ap) k3) ap) (r6 k1)))).trans ?_;refine(ar (aZ (d:=.lst (A.map (bW a))) (av (a:=LN A) (b:=LN (A.map a)) rfl rfl ?_))).trans ?_
 .show(if (A.map nD).length<=((A.map a).map nD).length then _ else _)=_;rw[if_pos (by simp),wY]
 refine br (bP (bV (aj (d:=.lst ((A.drop (A.idxOf k)++A.take (A.idxOf k)).map (bW a))) (av (a:=.lst ((A.map (bW a)).drop (A.idxOf k))) (b:=.lst ((A.map (bW a)).take (A.idxOf k))) (js (d:=.lst (A.map (bW a))) rfl (iX (i:=((A.idxOf k:Nat):Int)) rfl) rfl (Kn (by rw[l_];omega))) (js (d:=.lst (A.map (bW a))) rfl rfl (iX (i:=((A.idxOf k:Nat):Int)) rfl) Km) ?_) ap) (e_tupL _)));show(if _ then _ else _)=_;rw[if_pos (by rw[K1];simp;omega),KJ,Px,Nv]
theorem iD{l:List Nat}{i:Nat}(h:i<l.length):(l.map nD)[i]? = some (nD (ofRow l i)):=by unfold ofRow;rw[x_,d_ h];rfl
theorem cH{l:List Nat}{n:Nat}(h:l.Perm (h_ n)):l.length=n:=by rw[h.length_eq,K3]
def fst(row:List Nat)(x:Nat):List Nat:=x::row.filter fun y=>decide (y≠x)
theorem yL{row:List Nat}{m x:Nat}(h:row.Perm (h_ m))(hx:x<m):(fst row x).Perm (h_ m):=by
 have hn:row.Nodup:=h.nodup_iff.mpr Lz;refine pD (KW.mpr ⟨by simp,kl hn⟩) Lz fun y=>?_;unfold fst;rw[z_,w_,h.mem_iff,s_,decide_eq_true_iff];by_cases e:y=x
 .simp[e,hx]
 .simp[e]
theorem zH{row:List Nat}{m x:Nat}(h:row.Perm (h_ m))(hm:m<=60):lM [TN row,nD x]=.ok (TN (fst row x)):=by have hl:=cH h;refine cm (B:=tK) (n:=2) ?_;unfold tK;refine br (bP (av (a:=.tup [nD x]) (b:=TN (row.filter fun y=>decide (y≠x))) (fT (aj (d:=nD x) rfl ap) (by simp)) (bV (aj (f8 (l:=row) nD (fun y=>decide (y≠x)) nD (fU (d:=TN row) rfl rfl) (by omega) fun y hy=>⟨[some (nD y),some (nD x)],rfl,bN (av (a:=nD y) (b:=nD x) rfl rfl (by rw[Cb];simp)),fun _=>rfl⟩) ap) (e_tupL _)) ?_));show(if _ then _ else _)=_;have:=Ln (fun y=>decide (y≠x)) row;rw[if_pos (by rw[K1];simp;simp at this;omega)];rfl
section
variable{ws nxs line:List Nat}{n:Nat}
abbrev aR(ws nxs:List Nat)(h:Nat):Nat:=ofRow ws (ofRow nxs h)
structure Rr(ws nxs:List Nat)(n:Nat)(rz:List (List Nat))(i:Nat):Prop where
 len:rz.length=i
 best:∀h,h<i->∃l,Wr rz h=aR ws nxs h::l
 perm:∀row∈rz,row.Perm (h_ n)
theorem yB(hw:ws.Perm (h_ n))(hx:nxs.Perm (h_ n))(h7:n<=7)(ns:List Int):∀(j i:Nat)(rz:List (List Nat))(y:Option D),i+j=n->Rr ws nxs n rz i ->∃rows' y',Rr ws nxs n rows' n/\aB (aE 5) Bj ((MQ i j).map nD) [some (IN ns),some (nD n),some (TN ws),some (TN nxs),some (.lst (rz.map TN)),y,none,none]=.nx [some (IN ns),some (nD n),some (TN ws),some (TN nxs),some (.lst (rows'.map TN)),y',none,none]
|0,i,rz,y,h,R=>by
  have:i=n:=by omega
  subst this;exact⟨rz,y,R,fg⟩
|j+1,i,rz,y,h,R=>by
  obtain⟨c,hc⟩:=gM ns (6+i) (by omega);obtain⟨row,r1,r2⟩:=iY c n (by omega);have hi:i<n:=by omega
  have hnx:ofRow nxs i<n:=(c9 hx).mpr hi;have hwx:aR ws nxs i<n:=(c9 hw).mpr hnx;obtain⟨rows',y',R',ih⟩:=yB hw hx h7 ns j (i+1) (rz++[fst row (aR ws nxs i)]) (some (nD i)) (by omega) (by
   refine⟨by rw[I_,R.len];rfl,fun g hg=>?_,fun r hr=>?_⟩
   .unfold Wr;by_cases q:g<i
    .rw[J_ (by rw[R.len];exact q)];exact R.best g q
    .have:g=i:=by omega
     subst this;refine⟨row.filter fun y=>decide (y≠aR ws nxs g),?_⟩;rw[Lg (by rw[R.len];exact q_ _),R.len,Nat.sub_self];rfl
   .rcases KU.mp hr with z|z
    .exact R.perm r z
    .rw[t_.mp z];exact yL r1 hwx)
  refine⟨rows',y',R',?_⟩;rw[Mv,B_,<-ih];refine eR (r1:=[some (IN ns),some (nD n),some (TN ws),some (TN nxs),some (.lst (rz.map TN)),some (nD i),none,none]) rfl ?_;refine ar (gI (d:=.lst (rz.map TN)) (ds:=[TN (fst row (aR ws nxs i))]) rfl rfl (aj (aP (aj (aP (aj (aP (aj (d:=IN ns) rfl (aj (d:=nD (6+i)) (av (a:=nD 6) (b:=nD i) rfl rfl (li _ _)) ap)) hc) (aj (d:=nD n) rfl ap)) r2) (aj (d:=nD (aR ws nxs i)) (av (a:=TN ws) (b:=nD (ofRow nxs i)) rfl (av (a:=TN nxs) (b:=nD i) rfl rfl (d9 (iD (by rw[cH hx];exact hi)))) (d9 (iD (by rw[cH hw];exact hnx)))) ap)) (zH r1 (by omega))) ap) ?_);rw[KJ];exact ka (by rw[l_,R.len];omega)
theorem GT{f:Nat->Nat}{x i:Nat}(h:0<i):(aX f x i)[(aX f x i).length-1]? = some (it f (i-1) x):=by rw[jE];unfold aX;rw[x_,Ld (by omega)];rfl
abbrev kA(ns:List Int)(n:Nat)(ws nxs:List Nat)(rz:List (List Nat))(h:Nat)(R:List D)(A:Option D):al:=[some (IN ns),some (nD n),some (TN ws),some (TN nxs),some (.lst (rz.map TN)),some (nD h),some (.lst R),A]
theorem Fw(hx:nxs.Perm (h_ n)){h k:Nat}(h7:n<=7)(hh:h<n)(hk:k<=n)(per:it (ofRow nxs) k h=h)(new:∀i,0<i->i<k->it (ofRow nxs) i h≠h){ns:List Int}{rz:List (List Nat)}{R:List D}{m:List Md}:∀(j i fuel:Nat),0<i->i+j=k->j<fuel ->dH m Bl Bk fuel (kA ns n ws nxs rz h R (some (LN (aX (ofRow nxs) h i))))=.nx (kA ns n ws nxs rz h R (some (LN (aX (ofRow nxs) h k)))):=by
 have b:=e8 hx;have lt:∀i,it (ofRow nxs) i h<n:=fun i=>by induction i with
 |zero=>exact hh
 |succ i ih=>rw[dJ];exact(c9 hx).mpr ih
 have nxt:∀(i:Nat),0<i->f2 (gv 3) (f2 (gv 7) (f1 (ci 1) fB) aW) aW (kA ns n ws nxs rz h R (some (LN (aX (ofRow nxs) h i))))=.ok (nD (it (ofRow nxs) i h)):=fun i i0=>by
  have e:it (ofRow nxs) i h=ofRow nxs (it (ofRow nxs) (i-1) h):=by rw[<-dJ (ofRow nxs),show i-1+1=i by omega]
  rw[e];exact av (a:=TN nxs) rfl (av (a:=LN (aX (ofRow nxs) h i)) (b:=.int (-1)) rfl rfl (yQ (GT i0))) (d9 (iD (by rw[cH hx];exact lt _)))
 intro j
 induction j with
|zero=>
  intro i fuel i0 hi hf;have:i=k:=by omega
  subst this;obtain⟨fuel,rfl⟩:∃g,fuel=g+1:=⟨fuel-1,by omega⟩
  refine oB (bN (av (b:=LN (aX (ofRow nxs) h i)) (nxt i i0) rfl ?_));have hm:h∈aX (ofRow nxs) h i:=r_.mpr ⟨0,s_.mpr i0,rfl⟩;rw[mH,per,decide_eq_true hm];rfl
|succ j ih=>
  intro i fuel i0 hi hf;obtain⟨fuel,rfl⟩:∃g,fuel=g+1:=⟨fuel-1,by omega⟩
  refine RZ (oC (bN (av (b:=LN (aX (ofRow nxs) h i)) (nxt i i0) rfl ?_)) ?_) (ih (i+1) fuel (by omega) (by omega) (by omega))
  .rw[mH,decide_eq_false ?_];rfl;intro z;obtain⟨l,h1,h2⟩:=r_.mp z;exact EM b new (s_.mp h1) (by omega) h2
  .refine ar (gI (d:=LN (aX (ofRow nxs) h i)) (ds:=[nD (it (ofRow nxs) i h)]) rfl rfl (aj (nxt i i0) ap) ?_);rw[o6];show _=some (D.lst ((aX (ofRow nxs) h i++[it (ofRow nxs) i h]).map nD));rw[KJ];exact ka (by rw[l_,jE];omega)
theorem D6(hw:ws.Perm (h_ n))(hx:nxs.Perm (h_ n))(h7:n<=7){h:Nat}(hh:h<n){ns:List Int}{rz:List (List Nat)}{R:List D}(hR:R.length<=60)(A:Option D):∃A',uG (kA ns n ws nxs rz h R A)=.nx (kA ns n ws nxs rz h (R++((cf (ofRow nxs) n h).toList.map (aQ (aR ws nxs)))) A'):=by
 have b:=e8 hx;obtain⟨k,k0,kn,per,new⟩:=xT b (fun x=>c9 hx) hh;have lt:∀i,it (ofRow nxs) i h<n:=fun i=>by induction i with
 |zero=>exact hh
 |succ i ih=>rw[dJ];exact(c9 hx).mpr ih
 have ltA:∀x∈aX (ofRow nxs) h k,x<n:=fun x hx=>by obtain⟨i,_,rfl⟩:=r_.mp hx;exact lt i
 have hne:aX (ofRow nxs) h k≠[]:=KP (r_.mpr ⟨0,s_.mpr k0,rfl⟩);obtain⟨z,z1,z2,z3⟩:=rC hne;refine⟨some (LN (aX (ofRow nxs) h k)),?_⟩;refine(ar (aZ (d:=LN [h]) (fR (aj (d:=nD h) rfl ap) (by simp)))).trans ?_;refine(ar (Fw hx h7 hh kn per new (k-1) 1 64 (by omega) (by omega) (by omega))).trans ?_;have t:aN (f2 (fC (ag (gv 7) ae) iN) (gv 5) eqD) (kA ns n ws nxs rz h R (some (LN (aX (ofRow nxs) h k))))=.ok (decide (z=h)):=bN (av (a:=nD z) (b:=nD h) (bV (aj (d:=LN (aX (ofRow nxs) h k)) rfl ap) z3) rfl (jR z h));by_cases e:z=h
 .rw[decide_eq_true e]at t;subst e;have gt:∀i,0<i->i<k->z<it (ofRow nxs) i z:=fun i i0 hi=>by have h1:=z2 _ (r_.mpr ⟨i,s_.mpr hi,rfl⟩);have h2:=new i i0 hi;have h1:z<=it (ofRow nxs) i z:=h1;omega
  rw[tU k0 kn per gt];obtain⟨y,y1,y2,y3⟩:=zI (aR ws nxs) hne (by rw[jE];omega);have hy:y=z:=Nat.le_antisymm (y2 z z1) (z2 y y1);subst hy;have ix:(aX (ofRow nxs) y k).idxOf y=0:=by
   obtain⟨k,rfl⟩:∃l,k=l+1:=⟨k-1,by omega⟩
   unfold aX;rw[List.range_succ_eq_map,B_];exact List.idxOf_cons_self
  rw[ix,MR,List.take_zero,KA]at y3;refine ar ((cW t).trans (ar (gI (d:=.lst R) (ds:=[aQ (aR ws nxs) (aX (ofRow nxs) y k)]) rfl rfl (aj (aP (aj (d:=LN (aX (ofRow nxs) y k)) rfl (aj (ke (l:=aX (ofRow nxs) y k) nD (fun x=>nD (aR ws nxs x)) (fU (d:=LN (aX (ofRow nxs) y k)) rfl rfl) (by rw[jE];omega) fun x hx'=>⟨[some (nD x),some (TN ws),some (TN nxs)],rfl,av (a:=TN ws) (b:=nD (ofRow nxs x)) rfl (av (a:=TN nxs) (b:=nD x) rfl rfl (d9 (iD (by rw[cH hx];exact ltA x hx')))) (d9 (iD (by rw[cH hw];exact(c9 hx).mpr (ltA x hx'))))⟩) ap)) ?_) ap) (ka (by omega)))));rw[show((aX (ofRow nxs) y k).map fun x=>nD (aR ws nxs x))=((aX (ofRow nxs) y k).map (aR ws nxs)).map nD by rw[Kx];rfl];exact y3
 .rw[decide_eq_false e]at t;have none':cf (ofRow nxs) n h=none:=by cases q:cf (ofRow nxs) n h with
  |none=>rfl
  |some r=>
    obtain⟨j,j0,e1,e2,e3⟩:=m5 q;obtain⟨i,hi,rfl⟩:=r_.mp z1;have hi:=s_.mp hi;have h1:=z2 h (r_.mpr ⟨0,s_.mpr k0,rfl⟩);have:k<=j:=by
     rcases RN j k with w|w
     .exact absurd e2 (new j j0 w)
     .exact w
    have hi0:0<i:=by
     rcases Nat.eq_zero_or_pos i with w|w
     .subst w;exact absurd rfl e
     .exact w
    have:=e3 i hi0 (by omega);omega
  rw[none'];refine(ar ((bU t).trans (e_skip _))).trans ?_;rw[Option.toList_none,LC,KA];rfl
end
section
variable{ws nxs line:List Nat}{n:Nat}
theorem yA(hw:ws.Perm (h_ n))(hx:nxs.Perm (h_ n))(h7:n<=7){ns:List Int}{rz:List (List Nat)}:∀(j i:Nat)(R:List D)(y A:Option D),i+j=n->R.length<=i ->∃y' A',aB (aE 5) uG ((MQ i j).map nD) [some (IN ns),some (nD n),some (TN ws),some (TN nxs),some (.lst (rz.map TN)),y,some (.lst R),A]=.nx [some (IN ns),some (nD n),some (TN ws),some (TN nxs),some (.lst (rz.map TN)),y',some (.lst (R++((MQ i j).filterMap (cf (ofRow nxs) n)).map (aQ (aR ws nxs)))),A']
|0,i,R,y,A,_,_=>⟨y,A,by simp only[List.range'_zero,List.filterMap_nil,LC,KA];exact fg⟩
|j+1,i,R,y,A,h,hR=>by
  obtain⟨A1,e1⟩:=D6 hw hx h7 (h:=i) (by omega) (ns:=ns) (rz:=rz) (R:=R) (by omega) A;have hl:((cf (ofRow nxs) n i).toList.map (aQ (aR ws nxs))).length<=1:=by rw[l_];cases cf (ofRow nxs) n i <;> simp
  obtain⟨y',A',ih⟩:=yA hw hx h7 (ns:=ns) (rz:=rz) j (i+1) (R++(cf (ofRow nxs) n i).toList.map (aQ (aR ws nxs))) (some (nD i)) A1 (by omega) (by rw[I_];omega);refine⟨y',A',?_⟩;have e2:(MQ i (j+1)).filterMap (cf (ofRow nxs) n)=(cf (ofRow nxs) n i).toList++(MQ (i+1) j).filterMap (cf (ofRow nxs) n):=by rw[Mv,K4];cases cf (ofRow nxs) n i <;> rfl
  rw[e2,KJ,<-K8,<-ih,Mv,B_];exact eR (r1:=kA ns n ws nxs rz i R A) rfl e1
theorem J3(ns:List Int)(n:Nat)(h1:1<=n)(h7:n<=7):∃ws nxs rz U,ws.Perm (h_ n)/\nxs.Perm (h_ n)/\Rr ws nxs n rz n/\U.Perm ((h_ n).filterMap (cf (ofRow nxs) n))/\ii (aR ws nxs) U /\qg [IN ns,nD n]=.ok (.tup [WD rz,TN ws,bL (aR ws nxs) [U]]):=by
 obtain⟨c3,hc3⟩:=gM ns 3 (by decide);obtain⟨c4,hc4⟩:=gM ns 4 (by decide);obtain⟨ws,hw,w2⟩:=iY c3 n (by omega);obtain⟨nxs,hx,x2⟩:=iY c4 n (by omega);obtain⟨rz,y1,R,l1⟩:=yB hw hx h7 ns n 0 [] none (by omega) ⟨rfl,fun h hh=>absurd hh (by omega),fun r hr=>nomatch hr⟩;obtain⟨y2,A2,l2⟩:=yA hw hx h7 (ns:=ns) (rz:=rz) n 0 [] y1 none (by omega) (by simp);rw[<-NB]at l1 l2;rw[O8]at l2;have hln:((h_ n).filterMap (cf (ofRow nxs) n)).length<=n:=by have:=M7 (cf (ofRow nxs) n) (h_ n);rw[K3]at this;exact this
 obtain⟨U,u1,u2,u3⟩:=AE (aR ws nxs) ((h_ n).filterMap (cf (ofRow nxs) n)) (fun r hr=>by obtain⟨x,_,h2⟩:=KY.mp hr;exact rT h2) (by omega);refine⟨ws,nxs,rz,U,hw,hx,R,u1,u2,cm (B:=uJ) (n:=8) ?_⟩;unfold uJ;refine(ar (aZ (aP (aj (aP (aj (d:=IN ns) rfl (aj (d:=nD 3) rfl ap)) hc3) (aj (d:=nD n) rfl ap)) w2))).trans ?_;refine(ar (aZ (aP (aj (aP (aj (d:=IN ns) rfl (aj (d:=nD 4) rfl ap)) hc4) (aj (d:=nD n) rfl ap)) x2))).trans ?_;refine(ar (aZ (d:=.lst []) (fR ap (by simp)))).trans ?_;refine(ar ((eU (lv (aj (d:=nD n) rfl ap) (lq (by omega)))).trans l1)).trans ?_;refine(ar (aZ (d:=.lst []) (fR ap (by simp)))).trans ?_;refine(ar ((eU (lv (aj (d:=nD n) rfl ap) (lq (by omega)))).trans l2)).trans ?_;exact br (bP (fT (aj (d:=WD rz) (bV (aj (d:=.lst (rz.map TN)) rfl ap) (e_tupL _)) (aj (d:=TN ws) rfl (aj (d:=bL (aR ws nxs) [U]) (fR (aj (bV (aj (d:=.lst (((h_ n).filterMap (cf (ofRow nxs) n)).map (aQ (aR ws nxs)))) rfl ap) u3) ap) (by simp)) ap))) (by simp)))
theorem o7{h:Nat}(hw:ws.Perm (h_ n))(hh:h<n):own (ws.map some) h=some (ofRow ws h):=by unfold own ofRow;rw[x_,d_ (by rw[cH hw];exact hh)];rfl
theorem AW{h x:Nat}(hw:ws.Perm (h_ n))(e:own (ws.map some) h=some x):h<n:=by have:=(rA e).2;rw[l_,cH hw]at this;exact this
theorem y4(hw:ws.Perm (h_ n)):Own (ws.map some) n where
 lt:=fun x hx=>by obtain⟨y,hy,e⟩:=r_.mp hx;cases e;exact s_.mp (hw.mem_iff.mp hy)
 inj:=fun h k x h1 h2=>by have e1:=o7 hw (AW hw h1);have e2:=o7 hw (AW hw h2);rw[h1]at e1;rw[h2]at e2;cases e1;exact(e8 hw).inj (G_ e2)
theorem yb(ws:List Nat):OD (ws.map some)=TN ws:=by show D.tup _=D.tup _;rw[Kx];rfl
theorem F1{rz:List (List Nat)}{U:List (List Nat)}(h1:1<=n)(h7:n<=7)(hw:ws.Perm (h_ n))(hx:nxs.Perm (h_ n))(R:Rr ws nxs n rz n)(hU:U.Perm ((h_ n).filterMap (cf (ofRow nxs) n)))(hu:ii (aR ws nxs) U)(hl:line.Perm (h_ n)):Bt rz (ws.map some) line n n (aR ws nxs) [U]:=by
 have S:Scene rz (ws.map some) (some line) n n:=⟨h1,h7,q_ _,by omega,R.len,R.perm,y4 hw,by rw[l_,cH hw],fun l e=>by cases e;exact hl⟩
 have k:=S.ok;have th:=S.things;have hm:∀h,h∈(s0 rz (some line)).line↔h<n:=fun h=>S.mem;have hne:(s0 rz (some line)).line≠[]:=KP ((hm 0).mpr (by omega));have tg:∀h,h<n->tS rz (s0 rz (some line)) h=aR ws nxs h:=fun h hh=>by obtain⟨l,e⟩:=R.best h hh;refine Ab e ?_;show _∈Rg.S.things (s0 rz (some line));rw[th];exact s_.mpr ((c9 hw).mpr ((c9 hx).mpr hh))
 have nx:∀h∈(s0 rz (some line)).line,nxt (Wr rz) (own (ws.map some)) (s0 rz (some line)) h=ofRow nxs h:=fun h hh=>by have hh:=(hm h).mp hh;unfold nxt;rw[show bj (Wr rz) (s0 rz (some line)) h=aR ws nxs h from tg h hh];exact j8 k ((hm _).mpr ((c9 hx).mpr hh)) (o7 hw ((c9 hx).mpr hh))
 have cl:∀h∈(s0 rz (some line)).line,nxt (Wr rz) (own (ws.map some)) (s0 rz (some line)) h∈(s0 rz (some line)).line:=fun h hh=>mL hne;have hall:∀h∈(s0 rz (some line)).line,h∈dR (Wr rz) (own (ws.map some)) (s0 rz (some line)):=fun h hh=>by obtain⟨k,k0,_,per,_⟩:=xT (e8 hx) (fun x=>c9 hx) ((hm h).mp hh);refine oY.mpr ⟨hh,k-1,?_⟩;rw[show k-1+1=k by omega,(yP nx cl hh k).1,per]
 refine qA S fun l c=>?_;obtain⟨rs,rfl,hp,hr⟩:=yn c hne hall;have lt:∀r∈rs,∀x∈r,x<n:=fun r hr' x hx'=>(hm x).mp ((lB hp).sub x (KS.mpr ⟨r,hr',hx'⟩));have e:rs=U:=by refine E2 (t:=aR ws nxs) (hp.trans ?_) (HZ (fun r hr' x hx'=>tg x (lt r hr' x hx')) hr) hu;refine List.Perm.trans ?_ hU.symm;unfold d7;rw[Bi fun h hh=>Jt nx cl hh,S.line_perm.length_eq,K3];exact S.line_perm.filterMap _
 subst e;refine⟨rfl,fun p hp' h hh=>?_⟩;rw[t_.mp hp']at hh ⊢;obtain⟨r,h2,h3⟩:=KS.mp hh;exact(tg h (lt r h2 h h3)).symm
end
def oL:Option (List Nat)->D
|none=>.non
|some r=>TN r
section
variable{L Th line:List Nat}{n m:Nat}
def we(L Th:List Nat)(n i:Nat)(g:List (Option Nat)):Prop:=∀k,k<n->g[ofRow L k]? = some (if 0<k/\k<i then some (ofRow Th (k-1))else none)
def BB(L Th:List Nat)(m i:Nat)(r:List (Option (List Nat))):Prop:=∀k,k<i->∃l,r[ofRow L k]? = some (some (ofRow Th k::l))/\(ofRow Th k::l).Perm (h_ m)
theorem xX(hL:L.Perm (h_ n))(hT:Th.Perm (h_ m))(h7:n<=7)(h8:m<=8)(nm:n<=m)(ns:List Int):∀(j i:Nat)(g:List (Option Nat))(r:List (Option (List Nat)))(y:Option D),i+j=n->g.length=n->r.length=n->we L Th n i g->BB L Th m i r ->∃g' r' y',g'.length=n/\r'.length=n/\we L Th n n g'/\BB L Th m n r'/\aB (aE 7) Bn ((MQ i j).map nD) [some (IN ns),some (nD n),some (nD m),some (TN L),some (TN Th),some (.lst (g.map oD)),some (.lst (r.map oL)),y]=.nx [some (IN ns),some (nD n),some (nD m),some (TN L),some (TN Th),some (.lst (g'.map oD)),some (.lst (r'.map oL)),y']
|0,i,g,r,y,h,hg,hr,G,R=>by
  have:i=n:=by omega
  subst this;exact⟨g,r,y,hg,hr,G,R,fg⟩
|j+1,i,g,r,y,h,hg,hr,G,R=>by
  have b:=e8 hL;have hi:i<n:=by omega
  have hp:ofRow L i<n:=(c9 hL).mpr hi;have hu:ofRow Th i<m:=(c9 hT).mpr (by omega);obtain⟨c,hc⟩:=gM ns (6+i) (by omega);obtain⟨row,r1,r2⟩:=iY c m (by omega);have ne:∀{k:Nat},k≠i->ofRow L i≠ofRow L k:=fun hk e=>hk (b.inj e).symm;obtain⟨g1,hg1,G1,e1⟩:∃g1:List (Option Nat),g1.length=n/\we L Th n (i+1) g1/\cM eG (aN (f2 (gv 7) (ci 0) jK)) (aa (putF eG 5 (f2 (gv 3) (gv 7) aW) (f2 (gv 4) (f2 (gv 7) (ci 1) fq) aW)) ay) ay [some (IN ns),some (nD n),some (nD m),some (TN L),some (TN Th),some (.lst (g.map oD)),some (.lst (r.map oL)),some (nD i)]=.nx [some (IN ns),some (nD n),some (nD m),some (TN L),some (TN Th),some (.lst (g1.map oD)),some (.lst (r.map oL)),some (nD i)]:=by
   by_cases i0:0<i
   .refine⟨g.set (ofRow L i) (some (ofRow Th (i-1))),by rw[NG];exact hg,fun k hk=>?_,?_⟩
    .by_cases e:k=i
     .subst e;rw[p_ (by rw[hg];exact hp),if_pos ⟨i0,Mt _⟩]
     .rw[g_ (ne e),G k hk];by_cases w:0<k/\k<i
      .rw[if_pos w,if_pos ⟨w.1,by omega⟩]
      .rw[if_neg w,if_neg fun z=>w ⟨z.1,by omega⟩]
    .refine(cW (bN (av (a:=nD i) (b:=nD 0) rfl rfl (by rw[n6,decide_eq_true i0])))).trans ?_;have es:fq (nD i) (.int 1)=some (nD (i-1)):=by show some (D.int ((i:Int)-1))=some (D.int ((i-1:Nat):Int));rw[show(i:Int)-1=((i-1:Nat):Int)by omega]
     refine ar (j9 (d:=.lst (g.map oD)) (k:=nD (ofRow L i)) (v:=nD (ofRow Th (i-1))) rfl (av (a:=TN Th) (b:=nD (i-1)) rfl (av (a:=nD i) rfl rfl es) (d9 (iD (by rw[cH hT];omega)))) (av (a:=TN L) (b:=nD i) rfl rfl (d9 (iD (by rw[cH hL];exact hi)))) ?_);rw[RP];exact rj (by rw[l_,hg];exact hp)
   .refine⟨g,hg,fun k hk=>?_,(bU (bN (av (a:=nD i) (b:=nD 0) rfl rfl (by rw[n6,decide_eq_false i0])))).trans (e_skip _)⟩;rw[G k hk,if_neg fun z=>by omega,if_neg fun z=>by omega]
  obtain⟨g',r',y',q1,q2,q3,q4,ih⟩:=xX hL hT h7 h8 nm ns j (i+1) g1 (r.set (ofRow L i) (some (fst row (ofRow Th i)))) (some (nD i)) (by omega) hg1 (by rw[NG];exact hr) G1 (fun k hk=>by
   by_cases e:k=i
   .subst e;exact⟨_,by rw[p_ (by rw[hr];exact hp)];rfl,yL r1 hu⟩
   .rw[g_ (ne e)];exact R k (by omega))
  refine⟨g',r',y',q1,q2,q3,q4,?_⟩;rw[Mv,B_,<-ih];refine eR (r1:=[some (IN ns),some (nD n),some (nD m),some (TN L),some (TN Th),some (.lst (g.map oD)),some (.lst (r.map oL)),some (nD i)]) rfl ?_;refine(ar e1).trans ?_;refine ar (j9 (d:=.lst (r.map oL)) (k:=nD (ofRow L i)) (v:=TN (fst row (ofRow Th i))) rfl (aP (aj (aP (aj (aP (aj (d:=IN ns) rfl (aj (d:=nD (6+i)) (av (a:=nD 6) (b:=nD i) rfl rfl (li _ _)) ap)) hc) (aj (d:=nD m) rfl ap)) r2) (aj (d:=nD (ofRow Th i)) (av (a:=TN Th) (b:=nD i) rfl rfl (d9 (iD (by rw[cH hT];omega)))) ap)) (zH r1 (by omega))) (av (a:=TN L) (b:=nD i) rfl rfl (d9 (iD (by rw[cH hL];exact hi)))) ?_);rw[RP];exact rj (by rw[l_,hr];exact hp)
end
section
variable{L Th line:List Nat}{n m:Nat}
theorem DC{fa:FE}{fl fh:FP}{r:al}{d d':D}{lo hi:Option Int}(h1:fa r=.ok d)(h2:fl r=.ok lo)(h3:fh r=.ok hi)(h4:qo d lo hi=some d'):ie fa fl fh r=.ok d':=by unfold ie;rw[h1,bind_ok,h2,bind_ok,h3,bind_ok,h4];rfl
theorem Fa(l:List D)(i:Nat):qo (.tup l) none (some (i:Int))=some (.tup (l.take i)):=by show some (D.tup (bD l none (some (i:Int))))=_;unfold bD;rw[HT.cz,HT.bY,MR,O0];rw[No.mpr (by omega:min (min i l.length) l.length=min i l.length)]
abbrev aL(L Th:List Nat)(h:Nat):Nat:=ofRow Th (bX L h)
structure Lr(L Th:List Nat)(n m:Nat)(rz:List (List Nat))(owns:List (Option Nat)):Prop where
 rl:rz.length=n
 ol:owns.length=n
 best:∀h,h<n->∃l,Wr rz h=aL L Th h::l
 perm:∀row∈rz,row.Perm (h_ m)
 own:∀h,h<n->own owns h=if 0<bX L h then some (ofRow Th (bX L h-1))else none
theorem lC{l:List Nat}{n:Nat}(h:l.Perm (h_ n)){x:Nat}:bX l x<n↔x<n:=by rw[<-c9 h,(e8 h).r]
theorem sw{l:List Nat}{n:Nat}(h:l.Perm (h_ n)):(h_ n).map (ofRow l)=l:=by
 refine MN fun i=>?_;rw[x_];by_cases hi:i<n
 .rw[Ld hi,d_ (by rw[cH h];exact hi)];unfold ofRow;rw[MD,d_ (by rw[cH h];exact hi)];rfl
 .rw[KH (by simp;omega),KH (by rw[cH h];omega)];rfl
theorem CU(hL:L.Perm (h_ n))(hT:Th.Perm (h_ m))(nm:n<=m):L.map (aL L Th)=Th.take n:=by
 have e:L.map (aL L Th)=(h_ n).map (ofRow Th):=by refine(congrArg (List.map (aL L Th)) (sw hL).symm).trans ?_;rw[Kx];refine KI fun i _=>?_;show ofRow Th (bX L (ofRow L i))=_;rw[(e8 hL).l]
 rw[e,<-sw hT,<-Nv,List.take_range,O9 nm];rw[sw hT]
theorem JX(ns:List Int)(n:Nat)(h1:1<=n)(h7:n<=7):∃(c2 c3 m:Nat)(L Th:List Nat)(rz:List (List Nat))(owns:List (Option Nat))(k:Nat),n<=m/\m<=8/\L.Perm (h_ n)/\Th.Perm (h_ m)/\cR [IN ns,nD 3]=.ok (nD c3)/\eB [nD c3,nD n]=.ok (TN L)/\Lr L Th n m rz owns/\k∈L/\(∀x∈L,k<=x) /\qa [IN ns,nD n]=.ok (.tup [WD rz,OD owns,bL (aL L Th) [[L.drop (L.idxOf k)++L.take (L.idxOf k)]]]):=by
 obtain⟨c2,hc2⟩:=gM ns 2 (by decide);obtain⟨c3,hc3⟩:=gM ns 3 (by decide);obtain⟨c4,hc4⟩:=gM ns 4 (by decide);have hm9:c2/3%(9-n)<9-n:=MS _ (by omega);have em:f2 (gv 1) (f2 (f2 (az (ag (gv 0) (ag (ci 2) ae)) [] cR) (ci 3) jS) (f2 (ci 9) (gv 1) fq) bz) addA [some (IN ns),some (nD n),none,none,none,none,none,none]=.ok (nD (n+c2/3%(9-n))):=by
  have hsub:fq (.int 9) (nD n)=some (nD (9-n)):=by show some (D.int ((9:Int)-(n:Int)))=some (D.int ((9-n:Nat):Int));rw[show(9:Int)-(n:Int)=((9-n:Nat):Int)by omega]
  exact av (a:=nD n) (b:=nD (c2/3%(9-n))) rfl (av (a:=nD (c2/3)) (b:=nD (9-n)) (av (a:=nD c2) (b:=nD 3) (aP (aj (d:=IN ns) rfl (aj (d:=nD 2) rfl ap)) hc2) rfl (yg (by decide) (by decide))) (av (a:=.int 9) (b:=nD n) rfl rfl hsub) (oj (by omega))) (li _ _)
 have b8:n+c2/3%(9-n)<=8:=by omega
 have bn:n<=n+c2/3%(9-n):=by omega
 generalize n+c2/3%(9-n)=m at *;obtain⟨L,hL,l2⟩:=iY c3 n (by omega);obtain⟨Th,hT,t2⟩:=iY c4 m (by omega);have lL:=cH hL;have lT:=cH hT;obtain⟨g,r,y,g1,g2,g3,g4,lp⟩:=xX hL hT h7 b8 bn ns n 0 ((h_ n).map fun _=>none) ((h_ n).map fun _=>none) none (by omega) (by simp) (by simp) (fun k hk=>by rw[x_,Ld ((c9 hL).mpr hk),if_neg fun z=>by omega];rfl) (fun k hk=>absurd hk (by omega));rw[<-NB]at lp;have b:=e8 hL;have rat:∀h,h<n->∃l,r[h]? = some (some (aL L Th h::l))/\(aL L Th h::l).Perm (h_ m):=fun h hh=>by obtain⟨l,e1,e2⟩:=g4 (bX L h) ((lC hL).mpr hh);rw[b.r]at e1;exact⟨l,e1,e2⟩
 have er:r=(r.map fun o=>o.getD []).map some:=by
  refine MN fun h=>?_;rw[Kx,x_];by_cases hh:h<n
  .obtain⟨l,e1,_⟩:=rat h hh;rw[e1];rfl
  .rw[KH (by omega)];rfl
 have eD:r.map oL=(r.map fun o=>o.getD []).map TN:=by
  conv=>lhs;rw[er]
  rw[Kx];rfl
 rw[eD]at lp;have W:∀h,h<n->∃l,Wr (r.map fun o=>o.getD []) h=aL L Th h::l/\(aL L Th h::l).Perm (h_ m):=fun h hh=>by obtain⟨l,e1,e2⟩:=rat h hh;refine⟨l,?_,e2⟩;unfold Wr;rw[x_,e1];rfl
 obtain⟨k,k1,k2,k3⟩:=zI (aL L Th) (A:=L) (Ob (by omega)) (by omega);rw[CU hL hT bn]at k3;refine⟨c2,c3,m,L,Th,r.map fun o=>o.getD [],g,k,bn,b8,hL,hT,hc3,l2,⟨by rw[l_];exact g2,g1,fun h hh=>?_,fun row hr=>?_,fun h hh=>?_⟩,k1,k2,cm (B:=uM) (n:=8) ?_⟩
 .obtain⟨l,e,_⟩:=W h hh;exact⟨l,e⟩
 .obtain⟨i,hi⟩:=Ly hr;have hi':i<n:=by have:=(c_.mp hi).1;rw[l_,g2]at this;exact this
  obtain⟨l,e1,e2⟩:=W i hi';unfold Wr at e1;rw[hi]at e1;have e1:row=_:=e1;rw[e1];exact e2
 .have:=g3 (bX L h) ((lC hL).mpr hh);rw[b.r]at this;unfold own;rw[this];by_cases z:0<bX L h
  .rw[if_pos ⟨z,(lC hL).mpr hh⟩,if_pos z];rfl
  .rw[if_neg fun w=>z w.1,if_neg z];rfl
 unfold uM;refine(ar (aZ em)).trans ?_;refine(ar (aZ (aP (aj (aP (aj (d:=IN ns) rfl (aj (d:=nD 3) rfl ap)) hc3) (aj (d:=nD n) rfl ap)) l2))).trans ?_;refine(ar (aZ (aP (aj (aP (aj (d:=IN ns) rfl (aj (d:=nD 4) rfl ap)) hc4) (aj (d:=nD m) rfl ap)) t2))).trans ?_;have e1:L.map (fun _=>D.non)=((h_ n).map fun _=>(none:Option Nat)).map oD:=by rw[Kx,LY,lL];show _=(h_ n).map fun _=>D.non;rw[LY,K3]
 have e2:L.map (fun _=>D.non)=((h_ n).map fun _=>(none:Option (List Nat))).map oL:=by rw[Kx,LY,lL];show _=(h_ n).map fun _=>D.non;rw[LY,K3]
 refine(ar (aZ (d:=.lst (((h_ n).map fun _=>(none:Option Nat)).map oD)) (by rw[<-e1];exact ke (l:=L) nD (fun _=>.non) (fU (d:=TN L) rfl rfl) (by omega) fun x hx=>⟨[some (nD x)],rfl,rfl⟩))).trans ?_;refine(ar (aZ (d:=.lst (((h_ n).map fun _=>(none:Option (List Nat))).map oL)) (by rw[<-e2];exact ke (l:=L) nD (fun _=>.non) (fU (d:=TN L) rfl rfl) (by omega) fun x hx=>⟨[some (nD x)],rfl,rfl⟩))).trans ?_;refine(ar ((eU (lv (aj (d:=nD n) rfl ap) (lq (by omega)))).trans lp)).trans ?_;refine br (bP (fT (aj (d:=WD (r.map fun o=>o.getD [])) (bV (aj (d:=.lst ((r.map fun o=>o.getD []).map TN)) rfl ap) (e_tupL _)) (aj (d:=OD g) (bV (aj (d:=.lst (g.map oD)) rfl ap) (e_tupL _)) (aj (d:=bL (aL L Th) [[L.drop (L.idxOf k)++L.take (L.idxOf k)]]) (fR (aj (fR (aj (aP (aj (d:=LN L) (bV (aj (d:=TN L) rfl ap) rfl) (aj (d:=LN (Th.take n)) (bV (aj (d:=.tup ((Th.map nD).take n)) (DC (d:=TN Th) rfl rfl (iX (i:=(n:Int)) rfl) (Fa _ n)) ap) (by rw[<-Nv];rfl)) ap)) k3) ap) (by simp)) ap) (by simp)) ap))) (by simp)))
end
section
variable{L Th line:List Nat}{n m:Nat}{rz:List (List Nat)}{owns:List (Option Nat)}
theorem Lr.ow(hL:L.Perm (h_ n))(hT:Th.Perm (h_ m))(nm:n<=m)(R:Lr L Th n m rz owns):Own owns m:=by
 have key:∀{h x:Nat},Law.own owns h=some x->h<n/\0<bX L h/\x=ofRow Th (bX L h-1):=fun{h x} e=>by
  have hh:h<n:=by have:=(rA e).2;rw[R.ol]at this;exact this
  rw[R.own h hh]at e;by_cases z:0<bX L h
  .rw[if_pos z]at e;cases e;exact⟨hh,z,rfl⟩
  .rw[if_neg z]at e;cases e
 refine⟨fun x hx=>?_,fun h k x h1 h2=>?_⟩
 .obtain⟨h,hh⟩:=Ly hx;have e:Law.own owns h=some x:=by unfold Law.own;rw[hh];rfl
  obtain⟨h1,h2,rfl⟩:=key e;have:=(lC hL).mpr h1;exact(c9 hT).mpr (by omega)
 .obtain⟨a1,a2,a3⟩:=key h1;obtain⟨b1,b2,b3⟩:=key h2;have:=(e8 hT).inj (a3.symm.trans b3);have e:bX L h=bX L k:=by omega
  rw[<-(e8 hL).r h,e,(e8 hL).r]
theorem EN(h1:1<=n)(h7:n<=7)(nm:n<=m)(h8:m<=8)(hL:L.Perm (h_ n))(hT:Th.Perm (h_ m))(R:Lr L Th n m rz owns)(hl:line.Perm (h_ n))(hd:line.headD 0=ofRow L 0){k:Nat}(k1:k∈L)(k2:∀x∈L,k<=x):Bt rz owns line n m (aL L Th) [[L.drop (L.idxOf k)++L.take (L.idxOf k)]]:=by
 have S:Scene rz owns (some line) n m:=⟨h1,h7,nm,h8,R.rl,R.perm,R.ow hL hT nm,R.ol,fun l e=>by cases e;exact hl⟩
 have ok:=S.ok;have th:=S.things;have b:=e8 hL;have c:=e8 hT;have hm:∀h,h∈(s0 rz (some line)).line↔h<n:=fun h=>S.mem;have hne:(s0 rz (some line)).line≠[]:=KP ((hm 0).mpr (by omega));have ql:∀h,h<n->bX L h<n:=fun h hh=>(lC hL).mpr hh;have tg:∀h,h<n->tS rz (s0 rz (some line)) h=aL L Th h:=fun h hh=>by obtain⟨l,e⟩:=R.best h hh;refine Ab e ?_;show _∈Rg.S.things (s0 rz (some line));rw[th];have:=ql h hh;exact s_.mpr ((c9 hT).mpr (by omega))
 have nx:∀i,i<n->nxt (Wr rz) (own owns) (s0 rz (some line)) (ofRow L i)=ofRow L ((i+1)%n):=fun i hi=>by
  have hh:ofRow L i<n:=(c9 hL).mpr hi;unfold nxt;rw[show bj (Wr rz) (s0 rz (some line)) (ofRow L i)=ofRow Th i from(tg _ hh).trans (by unfold aL;rw[b.l])];by_cases z:i+1<n
  .rw[LA z];refine j8 ok ((hm _).mpr ((c9 hL).mpr z)) ?_;rw[R.own _ ((c9 hL).mpr z),b.l,if_pos (by omega)];rfl
  .rw[show i+1=n by omega,RM];unfold pt;have e:(s0 rz (some line)).line.find? (fun h=>decide (own owns h=some (ofRow Th i)))=none:=KO.mpr fun g hg=>by
    have hg:=(hm g).mp hg;have:=ql g hg;rw[R.own g hg];simp only[decide_eq_true_eq];intro w;split at w
    .have:=c.inj (G_ w);omega
    .cases w
   rw[e];exact hd
 have itn:∀(t i:Nat),i<n->it (nxt (Wr rz) (own owns) (s0 rz (some line))) t (ofRow L i)=ofRow L ((i+t)%n):=by
  intro t
  induction t with
 |zero=>intro i hi;rw[P9,LA hi];rfl
 |succ t ih=>intro i hi;show it _ t (nxt (Wr rz) (own owns) (s0 rz (some line)) (ofRow L i))=_;rw[nx i hi,ih _ (MS _ (by omega)),QE,show i+1+t=i+(t+1)by omega]
 have hall:∀h∈(s0 rz (some line)).line,h∈dR (Wr rz) (own owns) (s0 rz (some line)):=fun h hh=>by
  refine oY.mpr ⟨hh,n-1,?_⟩;have hq:=ql h ((hm h).mp hh);rw[show n-1+1=n by omega]
  conv=>lhs;arg 3;rw[<-b.r h]
  rw[itn n _ hq,Oi,LA hq,b.r]
 have lL:=cH hL;have hi:L.idxOf k<n:=by rw[<-lL];exact M5.mpr k1
 have hk:ofRow L (L.idxOf k)=k:=by unfold ofRow;rw[d_ (by omega),My,M9]
 have rot:L.drop (L.idxOf k)++L.take (L.idxOf k)=aX (nxt (Wr rz) (own owns) (s0 rz (some line))) k n:=by
  refine MN fun t=>?_;by_cases ht:t<n
  .rw[oK (by omega) (by omega),lL];unfold aX;rw[x_,Ld ht];show _=some (it _ t k)
   conv=>rhs;arg 1;arg 3;rw[<-hk]
   rw[itn t _ hi];have:=MS (L.idxOf k+t) (show 0<n by omega);unfold ofRow;rw[d_ (by omega)];rfl
  .rw[KH (by rw[I_,KR,K5];omega),KH (by rw[jE];omega)]
 refine qA S fun l cc=>?_;obtain⟨rs,rfl,hp,hr⟩:=yn cc hne hall;have hmem:∀x,x∈L.drop (L.idxOf k)++L.take (L.idxOf k)↔x∈L:=fun x=>by rw[KU,or_comm,<-KU,LM]
 have e:rs.Perm [L.drop (L.idxOf k)++L.take (L.idxOf k)]:=by
  refine zx ok hp (fun u hu=>?_) ?_ fun h=>?_
  .rw[t_.mp hu];refine⟨k,n,by omega,rot,?_,fun t t0 ht=>?_⟩
   .conv=>lhs;arg 3;rw[<-hk]
    rw[itn n _ hi,Oi,LA hi,hk]
   .have e1:it (nxt (Wr rz) (own owns) (s0 rz (some line))) t k=ofRow L ((L.idxOf k+t)%n):=by
     conv=>lhs;arg 3;rw[<-hk]
     exact itn t _ hi
    rw[e1];have hlt:=MS (L.idxOf k+t) (show 0<n by omega);have hmm:ofRow L ((L.idxOf k+t)%n)∈L:=hL.mem_iff.mpr (s_.mpr ((c9 hL).mpr hlt));have h2:=k2 _ hmm;have h3:k≠ofRow L ((L.idxOf k+t)%n):=fun z=>by
     have z:ofRow L (L.idxOf k)=ofRow L ((L.idxOf k+t)%n):=by rw[hk];exact z
     have z:=b.inj z;rcases RN (L.idxOf k+t) n with w|w
     .rw[LA w]at z;omega
     .rw[Nat.mod_eq_sub_mod w,LA (by omega)]at z;omega
    omega
  .rw[LG,OH,KA];exact(Pb.trans (by rw[LM]:(L.take (L.idxOf k)++L.drop (L.idxOf k)).Perm L)).nodup_iff.mpr (hL.nodup_iff.mpr Lz)
  .rw[LG,OH,KA,hmem,hL.mem_iff,s_,<-hm h];exact⟨hall h,fun z=>(oY.mp z).1⟩
 have e:=Ps.mp e;subst e;refine⟨rfl,fun p hp' h hh=>?_⟩;rw[t_.mp hp']at hh ⊢;exact(tg h ((hm h).mp ((lB hp).sub h hh))).symm
end
section
variable{ws row line:List Nat}{n:Nat}
theorem HM{l:List Nat}{n x:Nat}(h:l.Perm (h_ n))(hx:x<n):l.idxOf x=bX l x:=by unfold bX;rw[if_pos (by rw[cH h];exact hx)]
abbrev l6(ws:List Nat)(row:List Nat):List (List (List Nat)):=row.map fun x=>[[bX ws x]]
theorem J4(ns:List Int)(n:Nat)(h1:1<=n)(h7:n<=7):∃ws row,ws.Perm (h_ n)/\row.Perm (h_ n) /\qc [IN ns,nD n]=.ok (.tup [WD (ws.map fun _=>row),TN ws,bL (ofRow ws) (l6 ws row)]):=by
 obtain⟨c3,hc3⟩:=gM ns 3 (by decide);obtain⟨c4,hc4⟩:=gM ns 4 (by decide);obtain⟨ws,hw,w2⟩:=iY c3 n (by omega);obtain⟨row,hr,r2⟩:=iY c4 n (by omega);have lw:=cH hw;have lr:=cH hr;refine⟨ws,row,hw,hr,cm (B:=uI) (n:=4) ?_⟩;unfold uI;refine(ar (aZ (aP (aj (aP (aj (d:=IN ns) rfl (aj (d:=nD 3) rfl ap)) hc3) (aj (d:=nD n) rfl ap)) w2))).trans ?_;refine(ar (aZ (aP (aj (aP (aj (d:=IN ns) rfl (aj (d:=nD 4) rfl ap)) hc4) (aj (d:=nD n) rfl ap)) r2))).trans ?_;refine br (bP (fT (aj (d:=WD (ws.map fun _=>row)) (bV (aj (ke (l:=ws) nD (fun _=>TN row) (fU (d:=TN ws) rfl rfl) (by omega) fun x hx=>⟨[some (nD x),some (TN row)],rfl,rfl⟩) ap) ?_) (aj (d:=TN ws) rfl (aj (d:=bL (ofRow ws) (l6 ws row)) ?_ ap))) (by simp)))
 .rw[e_tupL];show some (D.tup _)=some (D.tup _);rw[Kx];rfl
 .have:=ke (nl:=1) (cap:=[2]) (fi:=aF bv (gv 3)) (ft:=aE 0) (fe:=dN (ag (dv (ag (dv (ag (fM "tuple" (gv 1) (ag (gv 0) ae) oF) (ag (gv 0) ae))) ae)) ae)) (r:=[some (IN ns),some (nD n),some (TN ws),some (TN row)]) (l:=row) nD (fun x=>D.lst [.tup [.tup [nD (bX ws x),nD x]]]) (fU (d:=TN row) rfl rfl) (by omega) fun x hx=>by have hxn:x<n:=s_.mp (hr.mem_iff.mp hx);have hxw:x∈ws:=hw.mem_iff.mpr (s_.mpr hxn);refine⟨[some (nD x),some (TN ws)],rfl,fR (aj (fT (aj (fT (aj (n0 (d:=TN ws) rfl rfl (aj (d:=nD x) rfl ap) ?_) (aj (d:=nD x) rfl ap)) (by simp)) ap) (by simp)) ap) (by simp)⟩;rw[Gi hxw,HM hw hxn]
  refine this.trans ?_;unfold bL;rw[Kx];refine congrArg (fun l=>Res.ok (D.lst l)) (KI fun x hx=>?_);show _=D.lst [.tup [.tup [nD (bX ws x),nD (ofRow ws (bX ws x))]]];rw[(e8 hw).r]
theorem FY{pre suf T:List Nat}{x:Nat}(hx:x∈T)(hp:∀y∈pre,y∉T):best (pre++x::suf) T=x:=by unfold best;rw[P8,KO.mpr fun y hy=>by simpa using hp y hy,Option.none_or,List.find?_cons_of_pos (by simpa using hx)];rfl
theorem zi{rz:List (List Nat)}(hw:ws.Perm (h_ n))(hr:row.Perm (h_ n))(hrows:∀h,h<n->Wr rz h=row):∀(suf pre:List Nat)(s:S)(l:List (List (List Nat)×S)),row=pre++suf->(∀x,x∈s.things↔x∈suf)->(∀h,h∈s.line↔h<n/\ofRow ws h∈suf)->Ok (Wr rz) (own (ws.map some)) s->Ch rz (ws.map some) s l ->l.map (·.1)=l6 ws suf/\∀p∈l,∀h∈p.1.flatten,ofRow ws h=tS rz p.2 h
|[],pre,s,l,_,_,hl,_,c=>by have e:s.line=[]:=List.eq_nil_iff_forall_not_mem.mpr fun h hh=>nomatch ((hl h).mp hh).2;cases c with
 |nil _=>exact⟨rfl,fun p hp=>nomatch hp⟩
 |cons hne _ _ _=>exact absurd e hne
|x::suf,pre,s,l,er,ht,hl,ok,c=>by
  have b:=e8 hw;have nd:row.Nodup:=hr.nodup_iff.mpr Lz;rw[er]at nd;have nd':=Lm.mp nd;have xs:x∉suf:=(KW.mp nd'.2.1).1;have hxn:x<n:=s_.mp (hr.mem_iff.mp (by rw[er];simp));have on:bX ws x<n:=(lC hw).mpr hxn;have ol:bX ws x∈s.line:=(hl _).mpr ⟨on,by rw[b.r];exact j_⟩;have tg:∀h∈s.line,tS rz s h=x:=fun h hh=>by show best (Wr rz h) s.things=x;rw[hrows h ((hl h).mp hh).1,er];exact FY ((ht x).mpr j_) fun y hy hz=>nd'.2.2 y hy y ((ht y).mp hz) rfl
  have nx:∀h∈s.line,nxt (Wr rz) (own (ws.map some)) s h=bX ws x:=fun h hh=>by unfold nxt;rw[show bj (Wr rz) s h=x from tg h hh];refine j8 ok ol ?_;rw[o7 hw on,b.r]
  have itc:∀(k:Nat),∀h∈s.line,it (nxt (Wr rz) (own (ws.map some)) s) (k+1) h=bX ws x:=by
   intro k
   induction k with
  |zero=>exact fun h hh=>nx h hh
  |succ k ih=>intro h hh;show it _ (k+1) (nxt (Wr rz) (own (ws.map some)) s h)=_;rw[nx h hh];exact ih _ ol
  have hg:∀h,h∈dR (Wr rz) (own (ws.map some)) s↔h=bX ws x:=fun h=>by
   rw[oY];constructor
   .rintro⟨h1,k,e⟩
    rw[itc k h h1]at e;exact e.symm
   .rintro rfl
    exact⟨ol,0,itc 0 _ ol⟩
  cases c with
 |nil e=>rw[e]at ol;cases ol
 |@cons _ rs l hne hu hp c=>
   have e:rs=[[bX ws x]]:=by
    refine Ps.mp (zx ok hp (fun u hu'=>?_) (by simp) fun h=>?_)
    .rw[t_.mp hu'];exact⟨bX ws x,1,by omega,rfl,itc 0 _ ol,fun t t0 t1=>by omega⟩
    .rw[hg];simp
   subst e;have cy:=lB hp;obtain⟨i1,i2⟩:=zi hw hr hrows suf (pre++[x]) _ l (by rw[er];simp) (fun y=>by
    show y∈s.things.filter _↔_;rw[w_,ht];have:([[bX ws x]].flatten).map (bj (Wr rz) s)=[x]:=by
     show[bj (Wr rz) s (bX ws x)]=[x]
     rw[show bj (Wr rz) s (bX ws x)=x from tg _ ol]
    rw[this,decide_eq_true_iff,t_,z_];constructor
    .rintro⟨h1|h1,h2⟩
     .exact absurd h1 h2
     .exact h1
    .intro h1;exact⟨.inr h1,fun z=>xs (z▸h1)⟩) (fun h=>by
    show h∈s.line.filter _↔_;rw[w_,hl,decide_eq_true_iff];have:h∈[[bX ws x]].flatten↔h=bX ws x:=by simp
    rw[this,z_];constructor
    .rintro⟨⟨h1,h2|h2⟩,h3⟩
     .exact absurd (by rw[<-h2,b.l]) h3
     .exact⟨h1,h2⟩
    .rintro⟨h1,h2⟩
     refine⟨⟨h1,.inr h2⟩,fun z=>?_⟩;rw[z,b.r]at h2;exact xs h2) (mK ok cy) c
   refine⟨by rw[B_,i1];rfl,fun p hp' h hh=>?_⟩;rcases z_.mp hp' with rfl|hp'
   .have:h=bX ws x:=by simpa using hh
    subst this;rw[b.r];exact(tg _ ol).symm
   .exact i2 p hp' h hh
theorem F0(h1:1<=n)(h7:n<=7)(hw:ws.Perm (h_ n))(hr:row.Perm (h_ n))(hl:line.Perm (h_ n)):Bt (ws.map fun _=>row) (ws.map some) line n n (ofRow ws) (l6 ws row):=by
 have S:Scene (ws.map fun _=>row) (ws.map some) (some line) n n:=⟨h1,h7,q_ _,by omega,by rw[l_,cH hw],fun r h=>by obtain⟨_,_,rfl⟩:=r_.mp h;exact hr,y4 hw,by rw[l_,cH hw],fun l e=>by cases e;exact hl⟩
 have th:=S.things;refine qA S fun l c=>zi hw hr (fun h hh=>?_) row [] _ l rfl (fun x=>?_) (fun h=>?_) S.ok c
 .unfold Wr;rw[x_,d_ (by rw[cH hw];exact hh)];rfl
 .show x∈Rg.S.things (s0 (ws.map fun _=>row) (some line))↔_;rw[th,hr.mem_iff]
 .have:h∈(s0 (ws.map fun _=>row) (some line)).line↔h<n:=S.mem;rw[this,hr.mem_iff,s_,c9 hw];simp
end
theorem zo(a:Nat->Nat):∀l:List Nat,Lc (zcd (l.map (bW a))) (zcd (l.map (bW a)))=true
|[]=>by simp[zcd,Lc]
|x::l=>by have ih:=zo a l;simp only[B_,zcd,aV,Lc,Nr,ih];simp
theorem zq(a:Nat->Nat):∀l:List (List Nat),Lc (zcd (l.map (aQ a))) (zcd (l.map (aQ a)))=true
|[]=>by simp[zcd,Lc]
|x::l=>by have ih:=zq a l;have h:=zo a x;simp only[B_,zcd,aV,Lc,Nr,ih,h];simp
theorem zm(a:Nat->Nat):∀l:List (List (List Nat)),Lc (zcd (l.map fun rs=>D.lst (rs.map (aQ a)))) (zcd (l.map fun rs=>D.lst (rs.map (aQ a))))=true
|[]=>by simp[zcd,Lc]
|x::l=>by have ih:=zm a l;have h:=zq a x;simp only[B_,zcd,aV,Lc,Nr,ih,h];simp
theorem CW(a:Nat->Nat)(L:List (List (List Nat))):neD (bL a L) (bL a L)=some (.bl false):=by
 have sh:bM 60 (bL a L):=oA.mpr fun d hd=>by obtain⟨x,_,rfl⟩:=r_.mp hd;refine oA.mpr fun d hd=>?_;obtain⟨x,_,rfl⟩:=r_.mp hd;refine lA.mpr fun d hd=>?_;obtain⟨x,_,rfl⟩:=r_.mp hd;refine lA.mpr fun e he=>?_;simp at he;rcases he with rfl|rfl <;> trivial
 unfold neD;rw[zk rfl sh sh];unfold kO;simp only[aV,Nr,zm];rfl
theorem wn{α:Type}:∀l:List α,iP (l.map fun _=>D.bl true)=some (l.map fun _=>true)
|[]=>rfl
|x::l=>by show(iP (l.map fun _=>D.bl true)).map _=_;rw[wn l];rfl
theorem B0{α:Type}(l:List α):allD [.lst (l.map fun _=>D.bl true)]=some (.bl true):=by show(iP (l.map fun _=>D.bl true)).map _=_;rw[wn];show some (D.bl ((l.map fun _=>true).all id))=_;rw[List.all_eq_true.mpr fun b hb=>by obtain⟨_,_,rfl⟩:=r_.mp hb;rfl]
section
variable{a:Nat->Nat}{n:Nat}
theorem yk(d0 d1:D):∀(L:List (List (List Nat)))(y:Option D),(∀rs∈L,rs.length<=60)->∃y',aB (aE 2) Bp (L.map fun rs=>.lst (rs.map (aQ a))) [some d0,some d1,y]=.nx [some d0,some d1,y']
|[],y,_=>⟨y,fg⟩
|rs::L,y,h=>by obtain⟨y',ih⟩:=yk d0 d1 L (some (.lst (rs.map (aQ a)))) fun r hr=>h r (k_ _ hr);refine⟨y',?_⟩;rw[<-ih,B_];refine eR (r1:=[some d0,some d1,some (.lst (rs.map (aQ a)))]) rfl ?_;refine ar ((bU ?_).trans (e_skip _));rw[gp (jA (b:=true) (gL (mh (a:=.lst (rs.map (aQ a))) (d:=.bl true) rfl rfl) rfl))];exact jA (b:=true) (gL (bV (aj (ke (l:=rs) (aQ a) (fun _=>.bl true) (fU (d:=.lst (rs.map (aQ a))) rfl rfl) (by have:=h rs j_;omega) fun r hr=>⟨[some (aQ a r)],rfl,mh (a:=aQ a r) (d:=.bl true) rfl rfl⟩) ap) (B0 rs)) rfl)
theorem JM{L:List (List (List Nat))}(h:∀rs∈L,rs.length<=60):qe [bL a L,bL a L]=.ok (.bl true):=by
 obtain⟨y',e⟩:=yk (a:=a) (bL a L) (bL a L) L none h;refine cm (B:=tX) (n:=3) ?_;unfold tX;refine(ar ((bU ?_).trans (e_skip _))).trans ?_
 .rw[gp (jA (b:=true) (gL (mh (a:=bL a L) (d:=.bl true) rfl rfl) rfl))];exact bN (av (a:=bL a L) (b:=bL a L) rfl rfl (CW a L))
 refine(ar ((eU (fU (d:=bL a L) rfl rfl)).trans e)).trans ?_;exact br (bP rfl)
def gt(n:Nat)(a:Nat->Nat)(C:List Nat):List D:=(h_ n).map fun h=>if h∈C then nD (a h)else .non
theorem Dh{C:List Nat}{h:Nat}(hh:h<n):(gt n a C).set h (nD (a h))=gt n a (C++[h]):=by
 refine MN fun k=>?_;unfold gt;by_cases e:h=k
 .subst e;rw[p_ (by simp;exact hh),x_,Ld hh];simp
 .rw[g_ e,x_,x_];by_cases hk:k<n
  .rw[Ld hk];have:k∈C++[h]↔k∈C:=by simp;exact fun z=>absurd z.symm e
   simp only[MD,this]
  .rw[KH (by simp;omega)];rfl
abbrev st15(x0 x1 x2 x3 x4 x5 x6 x7:Option D)(g:List D)(x9 x10 x11 x12:Option D):al:=[x0,x1,x2,x3,x4,x5,x6,x7,some (.lst g),x9,x10,x11,x12,none,none]
theorem wD{x0 x1 x2 x3 x4 x5 x6 x7 x9 x10:Option D}:∀(r C:List Nat)(x11 x12:Option D),(∀h∈r,h<n) ->∃y11 y12,aB (gP (cS (aE 11) (cS (aE 12) gH))) xQ (r.map (bW a)) (st15 x0 x1 x2 x3 x4 x5 x6 x7 (gt n a C) x9 x10 x11 x12)=.nx (st15 x0 x1 x2 x3 x4 x5 x6 x7 (gt n a (C++r)) x9 x10 y11 y12)
|[],C,x11,x12,_=>⟨x11,x12,by rw[KA];exact fg⟩
|h::r,C,x11,x12,hr=>by obtain⟨y11,y12,ih⟩:=wD r (C++[h]) (some (nD h)) (some (nD (a h))) fun k hk=>hr k (k_ _ hk);refine⟨y11,y12,?_⟩;rw[K8]at ih;rw[show C++h::r=C++([h]++r)from rfl,<-ih,B_];refine eR (r1:=st15 x0 x1 x2 x3 x4 x5 x6 x7 (gt n a C) x9 x10 (some (nD h)) (some (nD (a h)))) rfl ?_;refine ar (j9 (d:=.lst (gt n a C)) (k:=nD h) (v:=nD (a h)) rfl rfl rfl ?_);rw[<-Dh (hr h j_)];exact rj (by unfold gt;simp;exact hr h j_)
theorem xh{x0 x1 x2 x3 x4 x5 x6 x7 x9:Option D}:∀(rs:List (List Nat))(C:List Nat)(x10 x11 x12:Option D),(∀h∈rs.flatten,h<n) ->∃y10 y11 y12,aB (aE 10) xR (rs.map (aQ a)) (st15 x0 x1 x2 x3 x4 x5 x6 x7 (gt n a C) x9 x10 x11 x12)=.nx (st15 x0 x1 x2 x3 x4 x5 x6 x7 (gt n a (C++rs.flatten)) x9 y10 y11 y12)
|[],C,x10,x11,x12,_=>⟨x10,x11,x12,by rw[OH,KA];exact fg⟩
|r::rs,C,x10,x11,x12,h=>by rw[LG]at h;obtain⟨z11,z12,e⟩:=wD (a:=a) (n:=n) (x0:=x0) (x1:=x1) (x2:=x2) (x3:=x3) (x4:=x4) (x5:=x5) (x6:=x6) (x7:=x7) (x9:=x9) (x10:=some (aQ a r)) r C x11 x12 fun k hk=>h k (Lv _ hk);obtain⟨y10,y11,y12,ih⟩:=xh rs (C++r) (some (aQ a r)) z11 z12 fun k hk=>h k (KG _ hk);refine⟨y10,y11,y12,?_⟩;rw[LG,<-K8,<-ih,B_];refine eR (r1:=st15 x0 x1 x2 x3 x4 x5 x6 x7 (gt n a C) x9 (some (aQ a r)) x11 x12) rfl ?_;exact ar ((eU (fU (d:=aQ a r) rfl rfl)).trans e)
theorem xi{x0 x1 x2 x3 x4 x5 x6 x7:Option D}:∀(L:List (List (List Nat)))(C:List Nat)(x9 x10 x11 x12:Option D),(∀rs∈L,∀h∈rs.flatten,h<n) ->∃y9 y10 y11 y12,aB (aE 9) rJ (L.map fun rs=>.lst (rs.map (aQ a))) (st15 x0 x1 x2 x3 x4 x5 x6 x7 (gt n a C) x9 x10 x11 x12)=.nx (st15 x0 x1 x2 x3 x4 x5 x6 x7 (gt n a (C++L.flatMap RQ)) y9 y10 y11 y12)
|[],C,x9,x10,x11,x12,_=>⟨x9,x10,x11,x12,by rw[List.flatMap_nil,KA];exact fg⟩
|rs::L,C,x9,x10,x11,x12,h=>by obtain⟨z10,z11,z12,e⟩:=xh (a:=a) (n:=n) (x0:=x0) (x1:=x1) (x2:=x2) (x3:=x3) (x4:=x4) (x5:=x5) (x6:=x6) (x7:=x7) (x9:=some (.lst (rs.map (aQ a)))) rs C x10 x11 x12 (h rs j_);obtain⟨y9,y10,y11,y12,ih⟩:=xi L (C++rs.flatten) (some (.lst (rs.map (aQ a)))) z10 z11 z12 fun r hr=>h r (k_ _ hr);refine⟨y9,y10,y11,y12,?_⟩;rw[P_,<-K8,<-ih,B_];refine eR (r1:=st15 x0 x1 x2 x3 x4 x5 x6 x7 (gt n a C) (some (.lst (rs.map (aQ a)))) x10 x11 x12) rfl ?_;exact ar ((eU (fU (d:=.lst (rs.map (aQ a))) rfl rfl)).trans e)
theorem EX{C:List Nat}(h:∀k,k<n->k∈C):gt n a C=((h_ n).map a).map nD:=by unfold gt;rw[Kx];refine KI fun k hk=>?_;rw[if_pos (h k (s_.mp hk))];rfl
end
theorem FL{f:FE}{r:al}{ds:List D}(h:f r=.ok (.lst ds)):ic f r=.ok (.lst ds):=by unfold ic;rw[h];rfl
abbrev M1:List Md:=db
abbrev BX:FS:=(aa (ao M1 8 (cG 1 [] (aF bv (gv 3)) (aE 0) (fun _=>Res.ok true) (fun _=>Res.ok D.non))) (aa (c7 dc (aF bv (gv 6)) (aE 9) rJ) (aa (c7 dc (dy da (ag (ci 2) ae)) (aE 13) oQ) (aa (ax dc (f2 (az (ag (gv 4) (ag (gv 5) (ag (gv 3) ae))) [] lO) (fC (ag (gv 8) ae) tupD) eqD)) ay))))
theorem rF{rz:List (List Nat)}{owns:List (Option Nat)}{line:List Nat}{n m:Nat}{a:Nat->Nat}{L:List (List (List Nat))}(B:Bt rz owns line n m a L)(x0 x1 x2 x7:Option D):BX [x0,x1,x2,some (LN line),some (WD rz),some (OD owns),some (bL a L),x7,none,none,none,none,none,none,none]=.rt (.bl true):=by
 have hn7:=B.S.n7;have ll:line.length=n:=cH (B.S.op line rfl);obtain⟨y9,y10,y11,y12,lp⟩:=xi (a:=a) (n:=n) (x0:=x0) (x1:=x1) (x2:=x2) (x3:=some (LN line)) (x4:=some (WD rz)) (x5:=some (OD owns)) (x6:=some (bL a L)) (x7:=x7) L [] none none none none B.lt;rw[O8,EX (C:=L.flatMap RQ) fun k hk=>by obtain⟨rs,h1,h2⟩:=B.all k hk;exact List.mem_flatMap.mpr ⟨rs,h1,h2⟩]at lp;have step:∀(i:Nat)(z:Option D),oQ [x0,x1,x2,some (LN line),some (WD rz),some (OD owns),some (bL a L),x7,some (LN ((h_ n).map a)),y9,y10,y11,y12,some (nD i),z]=.nx [x0,x1,x2,some (LN line),some (WD rz),some (OD owns),some (bL a L),x7,some (LN ((h_ n).map a)),y9,y10,y11,y12,some (nD i),some (.lst [])]:=fun i z=>by
  refine(ar (aZ (d:=bL a L) (FL (aP (aj (d:=WD rz) rfl (aj (d:=OD owns) rfl (aj (d:=LN line) rfl ap))) B.rd)))).trans ?_;refine(ar ((bU ?_).trans (e_skip _))).trans ?_
  .rw[gp (jA (b:=true) (gL (aP (aj (d:=bL a L) rfl (aj (d:=bL a L) rfl ap)) (JM B.rl)) rfl))];exact bN (av (aP (aj (d:=WD rz) rfl (aj (d:=OD owns) rfl (aj (d:=LN line) rfl ap))) B.rings) (bV (aj (d:=LN ((h_ n).map a)) rfl ap) (e_tupL _)) (Ca _))
  exact ar (gI (d:=bL a L) (ds:=[]) rfl rfl ap rfl)
 refine(ar (aZ (d:=.lst (gt n a [])) ?_)).trans ?_
 .have:=ke (nl:=1) (cap:=[]) (fi:=aF bv (gv 3)) (ft:=aE 0) (fe:=fun _=>Res.ok D.non) (r:=[x0,x1,x2,some (LN line),some (WD rz),some (OD owns),some (bL a L),x7,none,none,none,none,none,none,none]) (l:=line) nD (fun _=>.non) (fU (d:=LN line) rfl rfl) (by omega) fun x hx=>⟨[some (nD x)],rfl,rfl⟩
  refine this.trans ?_;refine congrArg (fun l=>Res.ok (D.lst l)) ?_;unfold gt;rw[LY,ll];show _=(h_ n).map fun _=>D.non;rw[LY,K3]
 refine(ar ((eU (fU (d:=bL a L) rfl rfl)).trans lp)).trans ?_;refine(ar (r':=[x0,x1,x2,some (LN line),some (WD rz),some (OD owns),some (bL a L),x7,some (LN ((h_ n).map a)),y9,y10,y11,y12,some (nD 1),some (.lst [])]) ((eU (lv (aj (d:=nD 2) rfl ap) (lq (by omega)))).trans ?_)).trans ?_
 .show aB (aE 13) oQ [nD 0,nD 1] _=_;refine(eR (r1:=[x0,x1,x2,some (LN line),some (WD rz),some (OD owns),some (bL a L),x7,some (LN ((h_ n).map a)),y9,y10,y11,y12,some (nD 0),none]) rfl (step 0 none)).trans ?_;refine(eR (r1:=[x0,x1,x2,some (LN line),some (WD rz),some (OD owns),some (bL a L),x7,some (LN ((h_ n).map a)),y9,y10,y11,y12,some (nD 1),some (.lst [])]) rfl (step 1 _)).trans ?_;exact fg
 exact br (bP (av (aP (aj (d:=WD rz) rfl (aj (d:=OD owns) rfl (aj (d:=LN line) rfl ap))) B.asks) (bV (aj (d:=LN ((h_ n).map a)) rfl ap) (e_tupL _)) (Cz _)))
theorem vQ{l:List Nat}{x:Nat}(h:l.length<=60):insD (LN l) [.int 0,nD x]=some (LN (x::l)):=by show(if (l.map nD).length<sizeLine/\-(2^63)<=(0:Int)/\(0:Int)<2^63 then some (D.lst (bK (l.map nD) 0 (nD x)))else none)=_;rw[if_pos ⟨by rw[K1,l_];omega,by decide,by decide⟩];rfl
theorem B9(ns:List Int):nW [IN ns]=.ok (.bl true):=by
 obtain⟨c1,hc1⟩:=gM ns 1 (by decide);obtain⟨c2,hc2⟩:=gM ns 2 (by decide);obtain⟨c5,hc5⟩:=gM ns 5 (by decide);have cl:∀k:Nat,∀{c:Nat}{r:al},r[0]? = some (some (IN ns))->cR [IN ns,nD k]=.ok (nD c)->az (ag (gv 0) (ag (fun _=>Res.ok (D.int (k:Int))) ae)) [] cR r=.ok (nD c):=fun k c r hr e=>aP (aj (d:=IN ns) (by show cY r 0=_;unfold cY;rw[hr]) (aj (d:=nD k) rfl ap)) e;have hn:c1%7<7:=MS _ (by decide);have e1:f2 (az (ag (gv 0) (ag (ci 2) ae)) [] cR) (ci 3) bz [some (IN ns),none,none,none,none,none,none,none,none,none,none,none,none,none,none]=.ok (nD (c2%3)):=av (a:=nD c2) (b:=nD 3) (cl 2 rfl hc2) rfl (oj (by decide));have e2:f2 (ci 1) (f2 (az (ag (gv 0) (ag (ci 1) ae)) [] cR) (ci 7) bz) addA [some (IN ns),some (nD (c2%3)),none,none,none,none,none,none,none,none,none,none,none,none,none]=.ok (nD (1+c1%7)):=av (a:=nD 1) (b:=nD (c1%7)) rfl (av (a:=nD c1) (b:=nD 7) (cl 1 rfl hc1) rfl (oj (by decide))) (li _ _);have h1:1<=1+c1%7:=by omega
 have h7:1+c1%7<=7:=by omega
 generalize 1+c1%7=n at *;obtain⟨line,hl,l2⟩:=iY c5 n (by omega);refine cm (B:=n8) (n:=15) ?_;unfold n8;refine(ar (aZ e1)).trans ?_;refine(ar (aZ e2)).trans ?_;refine(ar (aZ (d:=LN line) (bV (aj (aP (aj (cl 5 rfl hc5) (aj (d:=nD n) rfl ap)) l2) ap) rfl))).trans ?_;generalize c2%3=way;have t0:aN (f2 (gv 1) (ci 0) eqD) [some (IN ns),some (nD way),some (nD n),some (LN line),none,none,none,none,none,none,none,none,none,none,none]=.ok (decide (way=0)):=bN (av (a:=nD way) (b:=nD 0) rfl rfl (jR way 0));have t1:aN (f2 (gv 1) (ci 1) eqD) [some (IN ns),some (nD way),some (nD n),some (LN line),none,none,none,none,none,none,none,none,none,none,none]=.ok (decide (way=1)):=bN (av (a:=nD way) (b:=nD 1) rfl rfl (jR way 1));by_cases w0:way=0
 .rw[decide_eq_true w0]at t0;obtain⟨ws,nxs,rz,U,hw,hx,R,u1,u2,e⟩:=J3 ns n h1 h7;have B:=F1 h1 h7 hw hx R u1 u2 hl;refine(ar ((cW t0).trans (ar (qS (d:=.tup [WD rz,TN ws,bL (aR ws nxs) [U]]) (r':=[some (IN ns),some (nD way),some (nD n),some (LN line),some (WD rz),some (TN ws),some (bL (aR ws nxs) [U]),none,none,none,none,none,none,none,none]) (aP (aj (d:=IN ns) rfl (aj (d:=nD n) rfl ap)) e) rfl)))).trans ?_;have:=rF B (some (IN ns)) (some (nD way)) (some (nD n)) none;rw[yb]at this;exact this
 .rw[decide_eq_false w0]at t0;by_cases w1:way=1
  .rw[decide_eq_true w1]at t1;obtain⟨_,c3,m,L,Th,rz,owns,k,nm,m8,hL,hT,hc3,lr,R,k1,k2,e⟩:=JX ns n h1 h7;have lL:=cH hL;have lx:L.length=n:=lL;have hL0:ofRow L 0∈line:=hl.mem_iff.mpr (s_.mpr ((c9 hL).mpr (by omega)));have hp:(ofRow L 0::line.erase (ofRow L 0)).Perm (h_ n):=(NA hL0).symm.trans hl;have B:=EN (line:=ofRow L 0::line.erase (ofRow L 0)) h1 h7 nm m8 hL hT R hp rfl k1 k2;have ll:=cH hl;refine(ar ((bU t0).trans (ar ((cW t1).trans ((ar (qS (d:=.tup [WD rz,OD owns,bL (aL L Th) [[L.drop (L.idxOf k)++L.take (L.idxOf k)]]]) (r':=[some (IN ns),some (nD way),some (nD n),some (LN line),some (WD rz),some (OD owns),some (bL (aL L Th) [[L.drop (L.idxOf k)++L.take (L.idxOf k)]]),none,none,none,none,none,none,none,none]) (aP (aj (d:=IN ns) rfl (aj (d:=nD n) rfl ap)) e) rfl)).trans ((ar (aZ (d:=nD (ofRow L 0)) (av (a:=TN L) (b:=nD 0) (aP (aj (cl 3 rfl hc3) (aj (d:=nD n) rfl ap)) lr) rfl (d9 (iD (by omega)))))).trans ((ar (gI (d:=LN line) (ds:=[nD (ofRow L 0)]) rfl rfl (aj (d:=nD (ofRow L 0)) rfl ap) (D7 hL0))).trans (ar (gI (d:=LN (line.erase (ofRow L 0))) (ds:=[.int 0,nD (ofRow L 0)]) rfl rfl (aj (d:=.int 0) rfl (aj (d:=nD (ofRow L 0)) rfl ap)) (vQ (by have:=Mp hL0;omega))))))))))).trans ?_;exact rF B (some (IN ns)) (some (nD way)) (some (nD n)) (some (nD (ofRow L 0)))
  .rw[decide_eq_false w1]at t1;obtain⟨ws,row,hw,hr,e⟩:=J4 ns n h1 h7;have B:=F0 h1 h7 hw hr hl;refine(ar ((bU t0).trans (ar ((bU t1).trans (ar (qS (d:=.tup [WD (ws.map fun _=>row),TN ws,bL (ofRow ws) (l6 ws row)]) (r':=[some (IN ns),some (nD way),some (nD n),some (LN line),some (WD (ws.map fun _=>row)),some (TN ws),some (bL (ofRow ws) (l6 ws row)),none,none,none,none,none,none,none,none]) (aP (aj (d:=IN ns) rfl (aj (d:=nD n) rfl ap)) e) rfl)))))).trans ?_;have:=rF B (some (IN ns)) (some (nD way)) (some (nD n)) none;rw[yb]at this;exact this
theorem main(ns:List Int)(_:ns.length<=63):nW [.lst (ns.map .int)]=.ok (.bl true):=B9 ns
end Law
open PySem PySem.W PyProof.Rows
abbrev P0:=NJ.prog
namespace PySem.W.Fast
def tw7367063980953933230:=0
def tw7483104161574580650:=0
def tw17045047970291679315:=0
def tw6469351570540173900:=0
def tw191044275599130553:=0
def tw14829179177775071476:=0
def tw10649574647612429184:=0
end PySem.W.Fast
set_option maxRecDepth 100000 in
set_option maxHeartbeats 0 in
theorem PySem.Challenge.cw_ringtrade_k51_rings_and_lines_built_holds : PySem.Challenge.rw_ringtrade_k51_rings_and_lines_built.Holds := by
 w_on; o_law; k_head; (case hw=>w_witness2)
 k_fill
 refine DL.BD (l:=PySem.Challenge.rw_ringtrade_k51_rings_and_lines_built) (k:=9) (x := "_law_script") (F:=Law.nW) rfl rfl ⟨rfl,by decide,by decide,rfl⟩ (fun w h Y=>PySem.W.kIn_of Y) Law.main ?C
 intro w mg fa h KX G hmg
 have T:Law.Txt (L2.aJ KX) mg:=by
  dsimp only [L2.aJ]
  refine ⟨?um,?un,?uo,?up,?uq,?ur,?ut,?uu,?uv,?uw,?ux,?uy⟩
  case um|un|uo|up|uq|ur|ut|uu|uv|uw|ux|uy=>(refine' PySem.W.mg_none_of KX G ?_; k_is)
 have uz:DL.DefAt (L2.aJ KX) mg "_law_cell" Law.sB:=by
  dsimp only [L2.aJ]
  refine' DL.cP KX G ?a ?l ?c ?k
  case a|l|c|k=>k_is
 have u0:DL.DefAt (L2.aJ KX) mg "_law_row" Law.sJ:=by
  dsimp only [L2.aJ]
  refine' DL.cP KX G ?a ?l ?c ?k
  case a|l|c|k=>k_is
 have u1:DL.DefAt (L2.aJ KX) mg "_law_first" Law.m9:=by
  dsimp only [L2.aJ]
  refine' DL.cP KX G ?a ?l ?c ?k
  case a|l|c|k=>k_is
 have u2:DL.DefAt (L2.aJ KX) mg "_law_ring_of" Law.tV:=by
  dsimp only [L2.aJ]
  refine' DL.cP KX G ?a ?l ?c ?k
  case a|l|c|k=>k_is
 have u3:DL.DefAt (L2.aJ KX) mg "_law_rings_built" Law.nr:=by
  dsimp only [L2.aJ]
  refine' DL.cP KX G ?a ?l ?c ?k
  case a|l|c|k=>k_is
 have u4:DL.DefAt (L2.aJ KX) mg "is_whole" Law.sM:=by
  dsimp only [L2.aJ]
  refine' DL.cP KX G ?a ?l ?c ?k
  case a|l|c|k=>k_is
 have u5:DL.DefAt (L2.aJ KX) mg "is_below" Law.sL:=by
  dsimp only [L2.aJ]
  refine' DL.cP KX G ?a ?l ?c ?k
  case a|l|c|k=>k_is
 have u6:DL.DefAt (L2.aJ KX) mg "first_wrong" Law.sY:=by
  dsimp only [L2.aJ]
  refine' DL.cP KX G ?a ?l ?c ?k
  case a|l|c|k=>k_is
 have u7:DL.DefAt (L2.aJ KX) mg "are_unlike" Law.sZ:=by
  dsimp only [L2.aJ]
  refine' DL.cP KX G ?a ?l ?c ?k
  case a|l|c|k=>k_is
 have u8:DL.DefAt (L2.aJ KX) mg "has_each_once" Law.tw:=by
  dsimp only [L2.aJ]
  refine' DL.cP KX G ?a ?l ?c ?k
  case a|l|c|k=>k_is
 have u9:DL.DefAtD (L2.aJ KX) mg "order_of" Law.sN [Value.none]:=by
  dsimp only [L2.aJ]
  refine' DL.ma KX G ?a ?l ?t ?c ?k
  case a|l|t|c|k=>k_is
 have va:DL.DefAt (L2.aJ KX) mg "best_left" Law.nb:=by
  dsimp only [L2.aJ]
  refine' DL.cP KX G ?a ?l ?c ?k
  case a|l|c|k=>k_is
 have vb:DL.DefAt (L2.aJ KX) mg "owner_left" Law.tf:=by
  dsimp only [L2.aJ]
  refine' DL.cP KX G ?a ?l ?c ?k
  case a|l|c|k=>k_is
 have vc:DL.DefAt (L2.aJ KX) mg "hand_pointed_at" Law.uA:=by
  dsimp only [L2.aJ]
  refine' DL.cP KX G ?a ?l ?c ?k
  case a|l|c|k=>k_is
 have vd:DL.DefAt (L2.aJ KX) mg "ring_from" Law.sD:=by
  dsimp only [L2.aJ]
  refine' DL.cP KX G ?a ?l ?c ?k
  case a|l|c|k=>k_is
 have ve:DL.DefAt (L2.aJ KX) mg "rings_of_round" Law.ko:=by
  dsimp only [L2.aJ]
  refine' DL.cP KX G ?a ?l ?c ?k
  case a|l|c|k=>k_is
 have vf:DL.DefAt (L2.aJ KX) mg "got_in" Law.rV:=by
  dsimp only [L2.aJ]
  refine' DL.cP KX G ?a ?l ?c ?k
  case a|l|c|k=>k_is
 have vg:DL.DefAt (L2.aJ KX) mg "things_in" Law.sE:=by
  dsimp only [L2.aJ]
  refine' DL.cP KX G ?a ?l ?c ?k
  case a|l|c|k=>k_is
 have vh:DL.DefAtD (L2.aJ KX) mg "rounds" Law.ki [Value.none]:=by
  dsimp only [L2.aJ]
  refine' DL.ma KX G ?a ?l ?t ?c ?k
  case a|l|t|c|k=>k_is
 have vi:DL.DefAt (L2.aJ KX) mg "dealing_of" Law.na:=by
  dsimp only [L2.aJ]
  refine' DL.cP KX G ?a ?l ?c ?k
  case a|l|c|k=>k_is
 have vj:DL.DefAt (L2.aJ KX) mg "pairs_of" Law.sO:=by
  dsimp only [L2.aJ]
  refine' DL.cP KX G ?a ?l ?c ?k
  case a|l|c|k=>k_is
 have vk:DL.DefAt (L2.aJ KX) mg "ones_behind" Law.tW:=by
  dsimp only [L2.aJ]
  refine' DL.cP KX G ?a ?l ?c ?k
  case a|l|c|k=>k_is
 have vl:DL.DefAt (L2.aJ KX) mg "ring_of_askers" Law.nk:=by
  dsimp only [L2.aJ]
  refine' DL.cP KX G ?a ?l ?c ?k
  case a|l|c|k=>k_is
 have vm:DL.DefAt (L2.aJ KX) mg "next_deed" Law.sC:=by
  dsimp only [L2.aJ]
  refine' DL.cP KX G ?a ?l ?c ?k
  case a|l|c|k=>k_is
 have vn:DL.DefAtD (L2.aJ KX) mg "asked" Law.iZ [Value.none]:=by
  dsimp only [L2.aJ]
  refine' DL.ma KX G ?a ?l ?t ?c ?k
  case a|l|t|c|k=>k_is
 have vo:DL.DefAtD (L2.aJ KX) mg "by_asking" Law.nc [Value.none]:=by
  dsimp only [L2.aJ]
  refine' DL.ma KX G ?a ?l ?t ?c ?k
  case a|l|t|c|k=>k_is
 have vp:DL.DefAt (L2.aJ KX) mg "_law_line_built" Law.kr:=by
  dsimp only [L2.aJ]
  refine' DL.cP KX G ?a ?l ?c ?k
  case a|l|c|k=>k_is
 have vq:DL.DefAt (L2.aJ KX) mg "_law_alike_built" Law.kt:=by
  dsimp only [L2.aJ]
  refine' DL.cP KX G ?a ?l ?c ?k
  case a|l|c|k=>k_is
 have vr:DL.DefAt (L2.aJ KX) mg "_law_is_rounds" Law.nj:=by
  dsimp only [L2.aJ]
  refine' DL.cP KX G ?a ?l ?c ?k
  case a|l|c|k=>k_is
 have vs:DL.DefAtD (L2.aJ KX) mg "by_rings" Law.sK [Value.none]:=by
  dsimp only [L2.aJ]
  refine' DL.ma KX G ?a ?l ?t ?c ?k
  case a|l|t|c|k=>k_is
 have vt:DL.DefAt (L2.aJ KX) mg "law" Law.my:=by
  dsimp only [L2.aJ]
  refine' DL.cP KX G ?a ?l ?c ?k
  case a|l|c|k=>k_is
 refine DL.BE hmg vt (fun _ _ _ _ _ _ us hl=>match us,hl with | [_],_=>rfl) fun f fd Fn base=>?_
 have ua:=Law.Gm (P:=P0) (w:=w) (base:=base) T uz
 have ub:=Law.Ez (P:=P0) (w:=w) (base:=base) T u0
 have ud:=Law.GP (P:=P0) (w:=w) (base:=base) T u1
 have ue:=Law.HG (P:=P0) (w:=w) (base:=base) T u2
 have vu:=Law.Je (P:=P0) (w:=w) (base:=base) T u3 ua ub ud ue
 have vv:=Law.EC (P:=P0) (w:=w) (base:=base) T u4
 have vw:=Law.EB (P:=P0) (w:=w) (base:=base) T u5 vv
 have vx:=Law.GC (P:=P0) (w:=w) (base:=base) T u6 vw
 have vy:=Law.GQ (P:=P0) (w:=w) (base:=base) T u7 vx
 have vz:=Law.Ib (P:=P0) (w:=w) (base:=base) T u8 vy
 have uf:=Law.ED (P:=P0) (w:=w) (base:=base) T u9 vz
 have ug:=Law.Gn (P:=P0) (w:=w) (base:=base) T va
 have uh:=Law.GS (P:=P0) (w:=w) (base:=base) T vb
 have v0:=Law.IG (P:=P0) (w:=w) (base:=base) T vc uh
 have v1:=Law.Gq (P:=P0) (w:=w) (base:=base) T vd
 have v2:=Law.IW (P:=P0) (w:=w) (base:=base) T ve ug v0 v1
 have uc:=Law.C2 (P:=P0) (w:=w) (base:=base) T vf
 have ui:=Law.Gr (P:=P0) (w:=w) (base:=base) T vg
 have uj:=Law.C3 (P:=P0) (w:=w) (base:=base) T vh uf ui v2 uc
 have uk:=Law.GR (P:=P0) (w:=w) (base:=base) T vi
 have ul:=Law.EE (P:=P0) (w:=w) (base:=base) T vj
 have v3:=Law.GD (P:=P0) (w:=w) (base:=base) T vk
 have v4:=Law.IV (P:=P0) (w:=w) (base:=base) T vl v3
 have v5:=Law.Gp (P:=P0) (w:=w) (base:=base) T vm ug uh v4
 have v6:=Law.BZ (P:=P0) (w:=w) (base:=base) T vn uf ui v5 ul uc
 have v7:=Law.Go (P:=P0) (w:=w) (base:=base) T vo v6 ul uc uk
 have v8:=Law.IF (P:=P0) (w:=w) (base:=base) T vp ua ub ud ue
 have v9:=Law.Jd (P:=P0) (w:=w) (base:=base) T vq ua ub
 have wa:=Law.IU (P:=P0) (w:=w) (base:=base) T vr
 have wb:=Law.EA (P:=P0) (w:=w) (base:=base) T vs uj uc uk
 exact Law.BF T Fn ua ub vu v8 v9 uj wb wa v7
end
