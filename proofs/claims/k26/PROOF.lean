import PyProof.Rows.All
import Wide.All
import OpenK.AllK
import Wide.FinOn
import Lean
import PyProof.EqAt
import PyProof.EqKinds
import PyProof.TupleCall
import PyProof.Rows.SetFrom
import KE.KSortTup
import PyProof.Draws
import PyProof.EnumMake
import PyProof.ListRange
import PyProof.Rows.EnumRows
import PyProof.SetRoads
import PyProof.Rows.MinMaxN
import PyProof.Rows.MaxTwoN
import PySem.Challenge.RW_ringtrade_k26_lots_of_like_rows
noncomputable section
open List renaming range->a_,mem_cons_of_mem->c_,getElem?_set_ne->d_,mem_cons_self->e_,getElem?_eq_some_iff->h_,mem_range->k_,length_map->l_,getElem?_eq_getElem->n_,getElem?_set_self->o_,mem_cons->p_,mem_map->q_,size_toArray->s_,getD_eq_getElem?_getD->u_,getElem?_map->x_,mem_filter->y_,map_cons->G_,nodup_cons->H_,nodup_range->J_,find?_cons->K_,mem_append_right->Mr,map_map->Mx,mem_of_find?_eq_some->MA,map_congr_left->MB,filter_cons->ME,replicate->MF,mem_singleton->MG,find?_eq_none->MH,getElem?_append_left->MK,append_nil->ML,length_cons->MM,map_append->MN,length_append->MO,all_eq_true->MP,mem_append_left->MQ,getElem?_range->MZ,append_assoc->M3,length_erase_of_mem->M6,mem_append->M9,find?_some->M_,mem_filterMap->Na,getElem?_replicate->Nb,Nodup->Ng,filterMap_cons->Nh,length_take->Nm,length_pos_of_mem->Np,all_cons->Nq,getElem_mem->Nr,ne_nil_of_mem->Nt,filter_filter->Nu,length_replicate->Nv,mem_of_mem_erase->Nw,drop_eq_getElem_cons->Ny,exists_mem_of_ne_nil->NA,length_set->NC,lookup_cons->NU,mem_flatten->NV,countP_map->N6,any_cons->N7,contains_iff_mem->Oa,length_range->Oc,countP_congr->Od,getElem?_append_right->Og,mem_erase_of_ne->Oh,perm_append_singleton->Oj,countP_cons->Op,filter_eq_self->Ov,range_succ->Oz,contains_cons->OC,reverse_cons->OM,getElem?_inj->OQ,getElem?_eq_none->OR,length_drop->OS,drop_length->OU,eq_nil_of_length_eq_zero->O0,range_eq_range'->O1,length_nil->O5,map_const'->O6,nil_append->O8,getElem?_eq_none_iff->Pu,length->Pw,getElem?_set->PB,ext_getElem?->PC,range'->PH,any_eq_true->P7,perm_middle->P8,not_mem_nil->P9,map_nil->Qg,take_of_length_le->Qn,any_map->Qo,of_mem_zip->Qs,forIn_cons->Qt,length_singleton->Qw,length_filter_le->Qy,take_append_drop->Qz,singleton_append->QA,mem_of_getElem?->QC,perm_cons_erase->QK,count_eq_countP->QM,map_take->QT,zip_cons_cons->QZ,take_sublist->Rc,flatten_cons->Rq,nodup_append->Rs,ext_getElem->Rz,idxOf_cons->RT,drop_zero->Se,map_drop->SZ,map_set->To,all->Tt
open PySem renaming Value->b_,wpAny_bind->f_,Shared->g_,starEach->j_,wpAny_pure->r_,wpAny->z_,Program->D_,model->E_,World->Mu,Around->Mw,mainGlobals->My,compareOp->MC,wpAny_mono->MS,sizeLine_eq->MU,wpAny_field->M0,FuncData->M5,wpAny_holding->Nc,wpAny_newObj_type->Nd,mem_of_lookup->Ni,assignEach->Nl,wpAny_passesOwn->NB,wpAny_truthy_bool->ND,foldedSetIterable->NE,excClassObj->NG,behindInMarks->NJ,cLine->NN,binaryOp->NQ,wpAny_callSpecial?_slot->NR,wpAny_setField->NS,sysModules->NW,bootBuiltins->NX,wpAny_Call_Name_kw->NY,wpAny_loadPart'->N5,attributeBase->N8,setFlight->N9,Scope->Oe,NameKind->Of,wpAny_call_entry->Oo,wpAny_typeOf_ref->Oq,Builtin->Oy,tupleKind_room_in1->OA,wpAny_pyIter_tuple->OE,sliceBounds->OH,wpAny_pyIter_enum->OP,noteFrame->OT,Keyword->OX,unbindBehindTheSuite->OZ,wpAny_execs_nil->O3,letOwnedTupleGo->O4,wpAny_isSubtype_exc->O_,swapsWith->Pc,assign->Pe,bindArgs->Pg,wpAny_letOwnedTupleGo_enum->Pm,holding->Pv,keywordEach->Px,wpAny_standAt->PJ,rawInt->PK,wpAny_comprehension_free->PM,PassesOwn->PV,noFill_tuple_add->PY,wpAny_pyNext_enum_itemD->P1,checkBuiltinCall->P3,codeAny->Qb,codeAny_mono->Qc,concat_meets->Qd,IsPart->Qe,getItem->Qf,callerA->Qk,notedBy->Qm,wpAny_pyNext_enum_endD->Qp,compEnvC->QE,codeAny_call_builtin->QG,tupleKind->QN,BindsTo->QO,valueAt->QP,seq_tuple_add->QS,wpAny_call->QX,PlainAttrs->Q0,call_meets->Q1,wpAny_assign_Name->Q_,wpAny_sequenceKey->Re,wpAny_typeOf->Rf,slot_list_getitem->Rh,backToKw->Ri,relabel->Rk,typeOf->Rw,Model->RF,seqIndex_of->RH,atKey->RI,builtinsNs->RY,wpAny_Name->RZ,bindL->R3,bindC->R4,call->R5,closureFor->R7,wpAny_rule->R9,isInstance->Sb,CmpOp->S0,cellsFrom->S1,seqItems?->S4,handedOut->S9,setItem->Tb,standAt->Tc,Result->Te,cellOf->Tg
open Bool renaming false_ne_true->i_,and_eq_true->I_,eq_iff_iff->Ms,not_eq_true'->OO,or_true->Ql,false_eq_true->Q2,false_and->R1
open PySem.Heap renaming get?_push_of_some->m_,lt_size->t_,get?_push_size->B_,get?_update_self->M4,get?_update_ne->Nj,size_push->OJ,SameBut->Pb,get?_update_other->Qi,get?_none_of_le->QB,FunFrames->QD
open Nat renaming le_refl->w_,lt_of_lt_of_le->A_,ne_of_lt->Mv,zero_le->MD,le_trans->MI,lt_irrefl->MX,pow_le_pow_right->Oi,ne_of_gt->Ol,lt_succ_self->Om,le_of_eq->OK,lt_of_le_of_lt->Pk,mod_lt->Pr,lt_of_succ_lt_succ->Qq,zero_add->Qr,le_of_lt->Q9,lt_succ_of_lt->Rj,add_comm->Rp,succ_le_succ->Rx,le_succ->RJ,mul_pos->RK,min_eq_left->RU,le_of_dvd->SX,pow_succ->Tj,succ_mul->Tk,sub_zero->Tn,log2_lt->Tr
open Option.some renaming inj->C_,injEq->Q8
open PySem.Str renaming ofString->F_
open Array renaming getElem?_setIfInBounds_self_of_lt->L_,getElem?_eq_some_iff->MV,length_toList->NP,getElem?_toList->N_,perm_iff_toList_perm->Pl,toArray_toList->QF,append_assoc->QW,ext_getElem?->Q3,toList->Ta,getD->Tv,ext'->Tw
open PySem.PassesOwn renaming never->Mt
open PySem.Obj renaming mapFields->Mz,mapSeq->NZ,data_mapFields->Q4
open PyProof.Rows renaming slot_tuple_getitem->MJ,callWith_type1->Ob,IntsAre->On,envOfC->Ot,AllBare->OW,boot_isinstance->O7,seqObj->PL,subscriptTail_builtinR->Qh,IsTup->Q7,entry_tuple_getitem->Rm,args_tuple_getitem->Ru,callWith_builtin1->Rv,get?_update_seq->RN,tupleItemsOf_->Sa,assign_Tuple->Sr,boot_sorted->SR
open Function renaming comp_apply->MR,comp_def->PF
open PySem.F renaming plainAttrs_list->MT,slot_list_append->NL,type_list_append->NM,args_tuple_add_2->Ow,slot_dict_update->Ox,entry_tuple_add->OG,plainAttrs_dict->OI,slot_tuple_add->OL,slot_list_insert->PN,slot_list_remove->PP,slot_dict_values->PQ,type_dict_update->PU,slot_list_count->P2
open PySem.PyData renaming canLay0->MW,eqvAll->M8,depth->Nf,eqv->OF,canLayAll0->Pz,depthAll->Qu
open False renaming elim->MY
open Int renaming mul_assoc->M7,toNat_natCast->NF,gcd->NH,gcd_dvd_right->NI,mul_comm->N0,natCast_nonneg->N4,gcd_dvd_left->OV,ofNat_inj->OY,toNat_of_nonneg->Pa,fdiv_eq_ediv_of_nonneg->Pf,natAbs_natCast->Pp,mul_left_comm->PD,mul_ediv_cancel_left->PR,natCast_dvd_natCast->P5,emod_nonneg->Qv,add_mul->QJ,dvd_mul_right->Rr,natCast_ediv->RD,natCast_add->RQ,natCast_mul->RS,natAbs_mul->Sc,dvd_trans->SV,ofNat_lt->Tl,dvd_gcd->Ts
open Classical renaming byContradiction->Nk,axiomOfChoice->P6
open PySem.Builtin.Str renaming occurrences->Nn
open LawfulBEq renaming eq_of_beq->No
open PySem.Builtin.Slice renaming slicePlaces->Nx,sliceAdjust->Os,sliceApplied->Pi,slicePartIndex->RL,sliceFields->Sq
open PySem.Builtin.SmallTypes renaming nextOf->Nz
open PySem.Builtin.Tuple renaming tupleExact->NK,tupleItemsOf->Pj,tupleIsExact->Pn,tupleCompareSizes->Rt
open Ne renaming symm->NO
open PySem.Builtin.Int renaming intBits->Ou,intTooBig->Qx
open Option renaming map_some->O2,isSome_map->Py,getD_none->PZ,getD_some->RC,map_none->RP,isSome->SY
open PySem.Heap.SameBut renaming update->O9
open PySem.Calls renaming Name_function_global->Pd,callWith_builtin->Qj
open PySem.SeqAt.EqAt renaming int_int->Ph,int_str->QU,str_int->QV,same->RM
open PySem.Bind renaming checkArgs->Po
open PySem.Challenge renaming pw_ringtrade_k26_lots_of_like_rows->Pq,rw_ringtrade_k26_lots_of_like_rows->Pt
open PySem.Builtin.Range renaming rangeSize->PX
open PySem.Builtin.Getset_descriptor renaming descrCheckInstance->P4,descrNameAndClass->P_,descrGetArgs->QI,descrGetter->QQ,descrGet->Q5
open PySem.Around renaming under->Qa
open PySem.W renaming findIn->QH,kitOne->Q6,looks_findIn->Ro,specialIn->S_,hideAll->Tf
open PySem.EntryCells renaming newEntry->QR
open PySem.SeqAt renaming EqAt->QY,shaped->Th
open PySem.Code renaming isFrame->Rb,isGuard->Td,frames->Tq
open PySem.MeetsSeq renaming EqGives->Ry
open PySem.Builtin.ObjectAttr renaming takesStores->RA,attrName->RX,bindTo->Ss
open Sum.inl renaming inj->RE
open PyProof.Rows.SortSt renaming mk'->R6
open PySem.Builtin.List renaming listFitsIndex->R8
open PyProof.Rows.IntsAre renaming int_at->R_,nums->Ti
open Eq renaming trans->Sd
open PySem.EqNone renaming eq_none_none->Sf,eq_none_bool->Sg,eq_bool_none->Sh,ne_none_none->Sk,ne_none_bool->Sl,ne_bool_none->Sm,eq_none_int->Sw,eq_none_str->Sx,eq_int_none->Sy,eq_str_none->SD,ne_none_int->SH,ne_none_str->SJ,ne_int_none->SK,ne_str_none->SM
open PySem.EqMixed renaming eq_bool_str->Si,eq_str_bool->Sj,ne_bool_str->Sn,ne_str_bool->So,eq_int_str->Sz,eq_str_int->SF,ne_int_str->SL,ne_str_int->SN
open PySem.Value renaming isStrOf->Su,isInt->Tp
open List.Pairwise renaming imp_of_mem->SU
open PyProof.Rows.IsTup renaming new->S2
open PySem.W.WShape renaming has->Tu
open PySem.Draws renaming list->Tx
set_option Elab.async false
set_option linter.all false
set_option maxRecDepth 100000
set_option maxHeartbeats 4000000
section
namespace L2
open PySem PySem.Spec PyProof.Rows
abbrev au:=Sum Int Str
def kM:au->b_->Bool
|.inl k,v=>Tp k v
|.inr x,v=>Su x v
def wB(w:Mu):au->Int
|.inl k=>hashInt k
|.inr x=>hashStr w x
theorem keyIs_shape:∀{k:au}{v:b_},kM k v=true->(∃i t,k=Sum.inl i/\v=Value.int i t)\/(∃x t,k=Sum.inr x/\v=Value.str x t)
|.inl i,v,h=>by obtain⟨t,e⟩:=Value.isInt_shape (k:=i) (v:=v) h;exact .inl ⟨i,t,rfl,e⟩
|.inr x,v,h=>by obtain⟨t,e⟩:=Value.isStrOf_shape (x:=x) (v:=v) h;exact .inr ⟨x,t,rfl,e⟩
theorem Ju(i:Int)(t:Tok):kM (.inl i) (.int i t)=true:=by simp[kM,Tp]
theorem Jv(x:Str)(t:Tok):kM (.inr x) (.str x t)=true:=by simp[kM,Su]
theorem EI(a b:Int):decide ((Sum.inl a:au)=Sum.inl b)=(a==b):=by
 by_cases e:a=b
 .subst e;simp
 .have h:¬ (Sum.inl a:au)=Sum.inl b:=fun q=>e (RE q);rw[decide_eq_false h];exact(beq_eq_false_iff_ne.mpr e).symm
theorem EL(a b:Str):decide ((Sum.inr a:au)=Sum.inr b)=decide (a=b):=by
 by_cases e:a=b
 .subst e;simp
 .have h:¬ (Sum.inr a:au)=Sum.inr b:=fun q=>e (Sum.inr.inj q);rw[decide_eq_false h,decide_eq_false e]
theorem EJ(a:Int)(b:Str):decide ((Sum.inl a:au)=Sum.inr b)=false:=decide_eq_false (fun q=>nomatch q)
theorem EK(a:Str)(b:Int):decide ((Sum.inr a:au)=Sum.inl b)=false:=decide_eq_false (fun q=>nomatch q)
def dQ(prog:D_)(w:Mu):PySem.KeyKind prog w au where
 is:=kM
 hash:=wB w
 inj:=fun v a b ha hb=>by
  rcases keyIs_shape ha with⟨i,t,rfl,rfl⟩|⟨x,t,rfl,rfl⟩
  .rcases keyIs_shape hb with⟨j,u,rfl,e⟩|⟨y,u,rfl,e⟩
   .injection e with e1 _;rw[e1]
   .exact nomatch e
  .rcases keyIs_shape hb with⟨j,u,rfl,e⟩|⟨y,u,rfl,e⟩
   .exact nomatch e
   .injection e with e1 _;rw[e1]
 byValue:=fun k v h=>by rcases keyIs_shape h with⟨i,t,rfl,rfl⟩|⟨x,t,rfl,rfl⟩ <;> rfl
 pyHash:=fun hv h=>by
  rcases keyIs_shape hv with⟨i,t,rfl,rfl⟩|⟨x,t,rfl,rfl⟩
  .exact wpAny_pyHash_int h
  .exact wpAny_pyHash_str h
 eqBool:=fun hu hv h=>by
  rcases keyIs_shape hu with⟨i,t,rfl,rfl⟩|⟨x,t,rfl,rfl⟩
  .rcases keyIs_shape hv with⟨j,u,rfl,rfl⟩|⟨y,u,rfl,rfl⟩
   .rw[EI]at h;exact wpAny_eqBool_int h
   .rw[EJ]at h;exact QU i t y u _ _ _ _ h
  .rcases keyIs_shape hv with⟨j,u,rfl,rfl⟩|⟨y,u,rfl,rfl⟩
   .rw[EK]at h;exact QV x t j u _ _ _ _ h
   .rw[EL]at h;exact wpAny_eqBool_str h
 «strs»:=fun k x t v h=>by
  rcases keyIs_shape h with⟨i,u,rfl,e⟩|⟨y,u,rfl,e⟩
  .exact nomatch e
  .injection e with e1 _
   subst e1;cases v <;> rfl
theorem KS(prog:D_)(w:Mu)(i:Int)(t:Tok):(dQ prog w).is (.inl i) (.int i t)=true:=Ju i t
theorem KU(prog:D_)(w:Mu)(x:Str)(t:Tok):(dQ prog w).is (.inr x) (.str x t)=true:=Jv x t
inductive V where
 |non|bl (b:Bool)|int (i:Int)|str (x:Str)|byt (b:Array UInt8)|flt (b:UInt64)|ref (a:Addr)|ty (n:String)
 deriving DecidableEq
def am:V->b_->Prop
|.non,u=>u=Value.none
|.bl b,u=>u=Value.bool b
|.int i,u=>∃t,u=Value.int i t
|.str x,u=>∃t,u=Value.str x t
|.byt b,u=>∃t,u=Value.bytes b t
|.flt b,u=>∃t,u=Value.float b t
|.ref a,u=>u=Value.ref a
|.ty n,u=>u=Value.type n
abbrev ai:List V->List b_->Prop:=Paired am
theorem ai.length{xs:List V}{us:List b_}(r:ai xs us):xs.length=us.length:=Paired.length r
theorem ai.get:∀{xs:List V}{us:List b_}{i:Nat}{x:V},ai xs us->xs[i]? = some x->∃u,us[i]? = some u/\am x u
|_,_,_,_,.nil,e=>by simp at e
|_,_,0,_,.cons r _,e=>by simp at e;subst e;exact⟨_,rfl,r⟩
|_,_,i+1,x,.cons _ t,e=>by obtain⟨u,h1,h2⟩:=ai.get (i:=i) (x:=x) t (by simpa using e);exact⟨u,by simpa using h1,h2⟩
theorem ai.set{x:V}{u:b_}(r:am x u):∀{xs:List V}{us:List b_}(i:Nat),ai xs us->ai (xs.set i x) (us.set i u)
|_,_,_,.nil=>.nil
|_,_,0,.cons _ t=>.cons r t
|_,_,i+1,.cons q t=>.cons q (ai.set r i t)
theorem ai.append{xs ys:List V}{us ws:List b_}(h:ai xs us)(h':ai ys ws):ai (xs++ys) (us++ws):=by induction h with
|nil=>exact h'
|cons r _ ih=>exact .cons r ih
theorem ai.take:∀{xs:List V}{us:List b_}(n:Nat),ai xs us->ai (xs.take n) (us.take n)
|_,_,0,_=>.nil
|_,_,_+1,.nil=>.nil
|_,_,n+1,.cons r t=>.cons r (ai.take n t)
theorem ai.drop:∀{xs:List V}{us:List b_}(n:Nat),ai xs us->ai (xs.drop n) (us.drop n)
|_,_,0,r=>r
|_,_,_+1,.nil=>.nil
|_,_,n+1,.cons _ t=>ai.drop n t
theorem ai.none_of:∀{xs:List V}{us:List b_}{i:Nat},ai xs us->xs[i]? = none->us[i]? = none:=fun{xs us i} r e=>by have h1:=r.length;have h2:xs.length<=i:=Pu.mp e;exact Pu.mpr (by omega)
def ck:Option V->Option b_->Prop
|some v,some u=>am v u
|none,none=>True
|_,_=>False
def KV{κ:Type}:List (κ×V)->List (κ×b_)->Prop:=Paired fun(p:κ×V)(q:κ×b_)=>p.1=q.1/\am p.2 q.2
def kV:au->V
|.inl i=>.int i
|.inr x=>.str x
inductive HO where
 |lst (xs:List V)
 |tup (xs:List V)
 |dK (kvs:List (au×V))|dT (kvs:List (List au×V))
 |set (S:Int->Bool) (n:Nat)
 |ins (C dx:Addr) (fs:List (Str×V))
 |own (x:Addr)
 |xd (fs:List (Str×V))
 |met (f x:Addr)
 |rng (lo hi:Int)
 |frz (o:Obj) (u:HO)
 |tbl (ps:Array b_)
 |ext (φ:Heap->Prop)
abbrev Hp:=Addr->Option HO
def upd(H:Hp)(a:Addr)(o:HO):Hp:=fun b=>if b=a then some o else H b
theorem bT{H:Hp}{a:Addr}{o:HO}:upd H a o a=some o:=by unfold upd;rw[if_pos rfl]
theorem aZ{H:Hp}{a b:Addr}{o:HO}(h:b≠a):upd H a o b=H b:=by unfold upd;rw[if_neg h]
theorem Df{H:Hp}{a b:Addr}{o u:HO}(h:H a=some o)(h':H b=some u)(d:o≠u):a≠b:=by intro e;subst e;rw[h]at h';exact d (C_ h')
theorem jn{H:Hp}{a b:Addr}{o:HO}(h:H a=some o)(h':H b=none):a≠b:=by intro e;subst e;rw[h]at h';cases h'
section
variable(P:D_)(w:Mu)
def bj(H:Hp)(h:Heap)(a:Addr):HO->Prop
|.lst xs=>xs.length<=sizeLine/\∃(its:List b_)(n:Nat),ai xs its/\h.get? a=some { cls:=.type "list",data:=.seq its.toArray n }
|.tup xs=>xs.length<=sizeLine/\∃its:List b_,ai xs its/\Q7 h a its.toArray/\∃o,h.get? a=some o/\o.dict=none
|.dK kvs=>kvs.length<=sizeLine/\(a==NW)=false/\∃vs,KV kvs vs/\h.DictOf (dQ P w) a vs
| .dT kvs=>kvs.length<=sizeLine/\(a == NW)=false/\∃xs:List (List au × Addr × b_),
   Paired (fun(p:List au×V)(q:List au×Addr×b_)=>p.1=q.1/\H q.2.1=some (.tup (p.1.map kV))/\am p.2 q.2.2) kvs xs /\∃o es ep,h.get? a=some o/\o.ExactDict/\o.data=.dict es ep/\es.toList=xs.map (entryOfKey (QN (dQ P w)))/\(xs.map (·.1)).Nodup
|.set S n=>h.SetOf (intKind P w) a S n
| .ins C dx fs=>H dx=some (.own a)/\fs.length<=1000/\dx≠a/\h.get? a=some (W.instObj C dx) /\
   ∃mA,h.Ns1 dx mA/\(∀f,ck (fs.lookup f) (mA f))/\PySem.Within mA (fs.map (·.1))
|.own _=>∃o,h.get? a=some o
|.xd fs=>∃mA,h.Ns1 a mA/\∀f,ck (fs.lookup f) (mA f)
|.rng lo hi=>∃t u v,h.get? a=some { cls:=.type "range",data:=.fields #[.int lo t,.int hi u,.int 1 v] }
|.frz o u=>h.get? a=some o/\bj H h a u
|.tbl ps=>h.get? a=some { cls:=.none,data:=.fields ps }
|.met f x=>h.get? a=some (W.methodObj (.ref f) (.ref x))
|.ext φ=>φ h/\(∃o,h.get? a=some o)/\∀h1 h2:Heap,φ h1->(∀o,h1.get? a=some o->h2.get? a=some o)->φ h2
def bU(H:Hp)(h:Heap):Prop:=∀a o,H a=some o->bj P w H h a o
end
section
variable{P:D_}{w:Mu}{H H':Hp}{h h':Heap}{a:Addr}{o:HO}
theorem bj.lt(x:bj P w H h a o):a<h.objs.size:=by cases o with
|lst xs=>obtain⟨_,_,_,_,e⟩:=x;exact t_ e
|tup xs=>obtain⟨_,_,_,p,_⟩:=x;exact p.lt
|dK kvs=>obtain⟨_,_,_,_,o,_,_,e,_⟩:=x;exact t_ e
|dT kvs=>obtain⟨_,_,_,_,o,_,_,e,_⟩:=x;exact t_ e
|set S n=>obtain⟨o,_,_,_,e,_⟩:=x;exact t_ e
|ins C dx fs=>obtain⟨_,_,_,e,_⟩:=x;exact t_ e
|own y=>obtain⟨_,e⟩:=x;exact t_ e
|xd fs=>obtain⟨_,⟨_,_,_,e,_⟩,_⟩:=x;exact t_ e
|rng lo hi=>obtain⟨_,_,_,e⟩:=x;exact t_ e
|frz ob u=>obtain⟨e,_⟩:=x;exact t_ e
|tbl ps=>exact t_ (show h.get? a=some _ from x)
|met f y=>exact t_ (show h.get? a=some _ from x)
|ext φ=>obtain⟨_,⟨_,e⟩,_⟩:=x;exact t_ e
theorem Paired.mapP{α β:Type}{F G:α->β->Prop}{l₁:List α}{l₂:List β}(h:Paired F l₁ l₂)(f:∀a b,F a b->G a b):Paired G l₁ l₂:=by induction h with
|nil=>exact .nil
|cons r _ ih=>exact .cons (f _ _ r) ih
theorem bj.stay(x:bj P w H h a o)(k:∀b u,(b=a\/H b=some (.own a))->h.get? b=some u->h'.get? b=some u)(ho:∀b,H b=some (.own a)->H' b=some (.own a))(ht:∀b xs,H b=some (.tup xs)->H' b=some (.tup xs)):bj P w H' h' a o:=by induction o with
|lst xs=>obtain⟨z,its,n,r,e⟩:=x;exact⟨z,its,n,r,k _ _ (.inl rfl) e⟩
|tup xs=>obtain⟨z,its,r,⟨ob,e,c⟩,ob2,e2,c2⟩:=x;exact⟨z,its,r,⟨ob,k _ _ (.inl rfl) e,c⟩,ob2,k _ _ (.inl rfl) e2,c2⟩
|dK kvs=>obtain⟨z,y,vs,r,ob,es,ep,e,c⟩:=x;exact⟨z,y,vs,r,ob,es,ep,k _ _ (.inl rfl) e,c⟩
|dT kvs=>obtain⟨z,y,xs,r,ob,es,ep,e,c⟩:=x;exact⟨z,y,xs,Paired.mapP r fun p q z=>⟨z.1,ht _ _ z.2.1,z.2.2⟩,ob,es,ep,k _ _ (.inl rfl) e,c⟩
|set S n=>obtain⟨ob,es,ep,t,e,c⟩:=x;exact⟨ob,es,ep,t,k _ _ (.inl rfl) e,c⟩
|ins C dx fs=>obtain⟨d,z,ne,e,mA,⟨od,es,ep,e2,c⟩,r⟩:=x;exact⟨ho _ d,z,ne,k _ _ (.inl rfl) e,mA,⟨od,es,ep,k _ _ (.inr d) e2,c⟩,r⟩
|own y=>obtain⟨ob,e⟩:=x;exact⟨ob,k _ _ (.inl rfl) e⟩
|xd fs=>obtain⟨mA,⟨od,es,ep,e,c⟩,r⟩:=x;exact⟨mA,⟨od,es,ep,k _ _ (.inl rfl) e,c⟩,r⟩
|rng lo hi=>obtain⟨t,u,v,e⟩:=x;exact⟨t,u,v,k _ _ (.inl rfl) e⟩
|frz ob u ih=>obtain⟨e,q⟩:=x;exact⟨k _ _ (.inl rfl) e,ih q⟩
|tbl ps=>have e:h.get? a=some { cls:=.none,data:=.fields ps }:=x;show h'.get? a=some { cls:=.none,data:=.fields ps };exact k a _ (.inl rfl) e
|met f y=>have e:h.get? a=some (W.methodObj (.ref f) (.ref y)):=x;show h'.get? a=some (W.methodObj (.ref f) (.ref y));exact k a _ (.inl rfl) e
|ext φ=>obtain⟨p,⟨o,e⟩,st⟩:=x;exact⟨st _ _ p fun o q=>k _ _ (.inl rfl) q,⟨o,k _ _ (.inl rfl) e⟩,st⟩
theorem bU.lt(x:bU P w H h)(e:H a=some o):a<h.objs.size:=(x a o e).lt
theorem bU.fresh(x:bU P w H h)(e:h.objs.size<=a):H a=none:=by cases q:H a with
|none=>rfl
|some u=>exact absurd (A_ (x.lt q) e) (MX _)
theorem bU.kept(x:bU P w H h)(k:∀b u,h.get? b=some u->h'.get? b=some u):bU P w H h':=fun a o e=>(x a o e).stay (fun b u _ q=>k b u q) (fun _ q=>q) fun _ _ q=>q
theorem bU.laid(x:bU P w H h)(k:∀b u,h.get? b=some u->h'.get? b=some u)(hp:h.objs.size<=a)(new:bj P w (upd H a o) h' a o):bU P w (upd H a o) h':=fun b u e=>by
 have hn:=x.fresh hp;by_cases hb:b=a
 .subst hb;rw[bT]at e;cases e;exact new
 .rw[aZ hb]at e;exact(x b u e).stay (fun c v _ q=>k c v q) (fun c q=>by rw[aZ (jn q hn)];exact q) fun c xs q=>by rw[aZ (jn q hn)];exact q
end
def Rd(H:Hp)(a:Addr)(u:HO):Prop:=H a=some u\/∃o,H a=some (.frz o u)
theorem Rd.of{H:Hp}{a:Addr}{u:HO}(h:H a=some u):Rd H a u:=.inl h
theorem Rd.ok{P:D_}{w:Mu}{H:Hp}{h:Heap}{a:Addr}{u:HO}(r:Rd H a u)(x:bU P w H h):bj P w H h a u:=by
 rcases r with r|⟨o,r⟩
 .exact x a u r
 .obtain⟨_,q⟩:=x a _ r;exact q
def nR:Option HO->Prop
|some (.lst _)=>True
|some (.dK _)=>True
|some (.dT _)=>True
|some (.set _ _)=>True
|some (.ins _ _ _)=>True
|some (.ext _)=>True
|_=>False
section
variable{P:D_}{w:Mu}{H:Hp}{h h':Heap}{x e:Addr}{o':HO}
theorem bU.write(ok:bU P w H h)(mu:nR (H x))(he:e=x\/H e=some (.own x))(k:∀b u,b≠e->h.get? b=some u->h'.get? b=some u)(heo:∃u,h'.get? e=some u)(new:bj P w (upd H x o') h' x o'):bU P w (upd H x o') h':=fun b u q=>by
 have nown:∀c y,H c=some (.own y)->c≠x:=fun c y r z=>by subst z;rw[r]at mu;exact mu
 have ntup:∀c xs,H c=some (.tup xs)->c≠x:=fun c xs r z=>by subst z;rw[r]at mu;exact mu
 by_cases hb:b=x
 .subst hb;rw[bT]at q;cases q;exact new
 .rw[aZ hb]at q;by_cases hbe:b=e
  .have q':H b=some (.own x):=by
    rcases he with z|z
    .exact absurd (hbe.trans z) hb
    .rw[hbe];exact z
   rw[q]at q';cases q';obtain⟨v,hv⟩:=heo;exact⟨v,by rw[hbe];exact hv⟩
  .refine(ok b u q).stay (fun c v hc r=>k c v ?_ r) (fun c r=>by rw[aZ (nown c b r)];exact r) fun c xs r=>by rw[aZ (ntup c xs r)];exact r
   rcases hc with rfl|hc
   .exact hbe
   .rintro rfl
    rcases he with z|z
    .exact nown c b hc z
    .rw[hc]at z;cases z;exact hb rfl
end
structure Un(fs ex:List Addr)(H H':Hp)(h h':Heap):Prop where
 keep:∀b o,h.get? b=some o->H b=none->b∉fs->b∉ex->h'.get? b=some o
 slot:∀b o,h.get? b=some o->H b=none->b∈fs->b∉ex->∃sl,h'.get? b=some { o with slots:=sl }
 free:∀b o,h.get? b=some o->H b=none->b∉ex->H' b=none
 there:∀b o,h.get? b=some o->b∉ex->∃o',h'.get? b=some o'
 tups:∀b xs,H b=some (.tup xs)->H' b=some (.tup xs)
 frzs:∀b o u,H b=some (.frz o u)->H' b=some (.frz o u)
 tbls:∀b ps,H b=some (.tbl ps)->∃more,H' b=some (.tbl (ps++more))
section
variable{fs fs' ex ex':List Addr}{H H1 H2:Hp}{h h1 h2 h':Heap}{a x e:Addr}{o:HO}
theorem Un.any(u:Un fs ex H H1 h h1){b:Addr}{ob:Obj}(q:h.get? b=some ob)(n:H b=none)(hx:b∉ex):∃sl,h1.get? b=some { ob with slots:=sl }:=by
 by_cases hb:b∈fs
 .exact u.slot b ob q n hb hx
 .exact⟨ob.slots,u.keep b ob q n hb hx⟩
theorem Un.trans(a:Un fs ex H H1 h h1)(b:Un fs ex H1 H2 h1 h2):Un fs ex H H2 h h2 where
 keep:=fun c ob q n hc hx=>b.keep c ob (a.keep c ob q n hc hx) (a.free c ob q n hx) hc hx
 slot:=fun c ob q n hc hx=>by obtain⟨sl,e1⟩:=a.slot c ob q n hc hx;obtain⟨sl',e2⟩:=b.slot c _ e1 (a.free c ob q n hx) hc hx;exact⟨sl',e2⟩
 free:=fun c ob q n hx=>by obtain⟨o',e1⟩:=a.there c ob q hx;exact b.free c o' e1 (a.free c ob q n hx) hx
 there:=fun c ob q hx=>by obtain⟨o',e1⟩:=a.there c ob q hx;exact b.there c o' e1 hx
 tups:=fun c xs q=>b.tups c xs (a.tups c xs q)
 frzs:=fun c ob xs q=>b.frzs c ob xs (a.frzs c ob xs q)
 tbls:=fun c ps q=>by obtain⟨m1,e1⟩:=a.tbls c ps q;obtain⟨m2,e2⟩:=b.tbls c _ e1;exact⟨m1++m2,by rw[e2,QW]⟩
theorem Un.kept(k:∀b u,h.get? b=some u->h'.get? b=some u):Un fs ex H H h h':=⟨fun b ob q _ _ _=>k b ob q,fun b ob q _ _ _=>⟨ob.slots,k b ob q⟩,fun _ _ _ n _=>n,fun b ob q _=>⟨ob,k b ob q⟩,fun _ _ q=>q,fun _ _ _ q=>q,fun _ ps q=>⟨#[],by rw[q];simp⟩⟩
theorem Un.refl:Un fs ex H H h h:=Un.kept fun _ _ q=>q
theorem Un.laid(k:∀b u,h.get? b=some u->h'.get? b=some u)(hp:h.objs.size<=a)(hn:H a=none):Un fs ex H (upd H a o) h h' where
 keep:=fun b u q _ _ _=>k b u q
 slot:=fun b u q _ _ _=>⟨u.slots,k b u q⟩
 free:=fun b u q n _=>by rw[aZ (Mv (A_ (t_ q) hp))];exact n
 there:=fun b u q _=>⟨u,k b u q⟩
 tups:=fun b xs q=>by rw[aZ (jn q hn)];exact q
 frzs:=fun b u xs q=>by rw[aZ (jn q hn)];exact q
 tbls:=fun b ps q=>⟨#[],by rw[aZ (jn q hn),q];simp⟩
theorem Un.write(mu:nR (H x))(he:e=x\/H e=some (.own x))(k:∀b u,b≠e->h.get? b=some u->h'.get? b=some u)(heo:∃u,h'.get? e=some u):Un fs ex H (upd H x o) h h':=by
 have hx:∀b,H b=none->b≠x:=fun b n z=>by subst z;rw[n]at mu;exact mu
 have hb:∀b,H b=none->b≠e:=fun b n z=>by
  subst z;rcases he with r|r
  .exact hx b n r
  .rw[n]at r;cases r
 have hm:∀b u,H b=some u->¬ nR (some u)->b≠x:=fun b u q nm z=>by subst z;rw[q]at mu;exact nm mu
 refine⟨fun b u q n _ _=>k b u (hb b n) q,fun b u q n _ _=>⟨u.slots,k b u (hb b n) q⟩,fun b u q n _=>by rw[aZ (hx b n)];exact n,fun b u q _=>?_,fun b xs q=>by rw[aZ (hm b _ q fun z=>z)];exact q,fun b u xs q=>by rw[aZ (hm b _ q fun z=>z)];exact q,fun b ps q=>⟨#[],by rw[aZ (hm b _ q fun z=>z),q];simp⟩⟩;by_cases hbe:b=e
 .subst hbe;exact heo
 .exact⟨u,k b u hbe q⟩
theorem Un.mono(u:Un fs ex H H1 h h1)(hs:∀b∈fs,b∈fs')(hx:∀b∈ex,b∈ex'):Un fs' ex' H H1 h h1:=⟨fun b ob q n hb he=>u.keep b ob q n (fun z=>hb (hs b z)) fun z=>he (hx b z),fun _ _ q n _ he=>u.any q n fun z=>he (hx _ z),fun b ob q n he=>u.free b ob q n fun z=>he (hx b z),fun b ob q he=>u.there b ob q fun z=>he (hx b z),u.tups,u.frzs,u.tbls⟩
end
def trk(h:Heap)(H:Hp):List Addr:=(a_ h.objs.size).filter fun a=>(H a).isSome
def dH(h:Heap)(H:Hp):Heap:=W.hideAll h (trk h H)
theorem JI(h:Heap)(H:Hp):(dH h H).objs.size=h.objs.size:=W.hideAll_size _ _
theorem HN{h:Heap}{H:Hp}{b:Addr}{o:Obj}(e:h.get? b=some o)(n:H b=none):(dH h H).get? b=some o:=W.hideAll_get _ e fun hm=>by have q:(H b).isSome=true:=(y_.mp hm).2;rw[n]at q;simp at q
theorem GL{h:Heap}{H:Hp}{b:Addr}{o:Obj}(e:(dH h H).get? b=some o):h.get? b=some o/\H b=none:=by have e':h.get? b=some o:=W.of_hideAll (trk h H) e;refine⟨e',?_⟩;cases q:H b with
|none=>rfl
|some x=>have hm:b∈trk h H:=y_.mpr ⟨k_.mpr (t_ e'),by simp[q]⟩;have z:(dH h H).get? b=none:=W.hideAll_none (trk h H) hm;rw[z]at e;cases e
def me(g h:Heap)(L:Addr):List (Addr×Obj):=(a_ h.objs.size).filterMap fun a=>if a=L\/(g.get? a).isSome=true then none else(h.get? a).map fun o=>(a,o)
theorem BK{g h:Heap}{L a:Addr}{o:Obj}(h1:a≠L)(h2:g.get? a=none)(h3:h.get? a=some o):(a,o)∈me g h L:=Na.mpr ⟨a,k_.mpr (t_ h3),by simp[h1,h2,h3]⟩
theorem LO{g h:Heap}{L:Addr}{p:Addr×Obj}(hp:p∈me g h L):p.1≠L/\g.get? p.1=none/\h.get? p.1=some p.2:=by
 obtain⟨b,_,e⟩:=Na.mp hp;split at e
 .cases e
 .rename_i hn;cases q:h.get? b with
 |none=>rw[q]at e;simp at e
 |some u=>rw[q]at e;simp only[O2,Q8]at e;subst e;refine⟨fun z=>hn (.inl z),?_,q⟩;show g.get? b=none;cases r:g.get? b with
  |none=>rfl
  |some v=>exact(hn (.inr (by simp[r]))).elim
def rest(g h:Heap)(L d:Addr):List (Addr×Obj):=(me g h L).filter fun p=>decide (p.1≠d)
theorem Jl{g h:Heap}{L:Addr}:News g L h (me g h L):=fun p hp=>let⟨a,b,c⟩:=LO hp;⟨c,a,b⟩
structure Mod(K:W.Frag)(mg:Str->Option b_)(base:Heap):Prop where
 kin:K.In base
 glob:base.Ns My mg
 blt:∃mb,base.Ns RY mb/\∀x:Str,x≠"__name__"->mb x=NX x
 nolimit:base.NoLimit
structure Cx where
 prog:D_
 w:Mu
 K:W.Frag
 mg:Str->Option b_
 base:Heap
 A:Mw
 N:List Str
 s₀:g_
 H₀:Hp
 env:Env
 outer:List Env
 stack:List Env
 ex:List Addr
 fn:Str->Bool
 calm:Bool
 pn:List (Addr×Obj)
 xe:b_->g_->Prop
def bQ(l:List Env):List Addr:=l.filterMap (·.frame)
abbrev Cx.fs(X:Cx):List Addr:=bQ X.outer
def fD(sc:Oe)(x:Str):Prop:=sc.names.lookup x=some .local\/sc.names.lookup x=some .cell\/sc.names.lookup x=some .free
def gZ(sc:Oe)(x:Str):Prop:=sc.names.lookup x=some .local\/sc.names.lookup x=some .cell
theorem eL{sc:Oe}{x:Str}(h:(match sc.names.lookup x with|some .local=>true|some .cell=>true|some .free=>true|_=>false)=true):fD sc x:=by
 revert h;unfold fD;split<;>intro h
 .exact .inl (by assumption)
 .exact .inr (.inl (by assumption))
 .exact .inr (.inr (by assumption))
 .cases h
def wL(env:Env)(h:Heap)(m:Str->Option b_)(x:Str)(u:b_):Prop:=(env.kindOf x=some .local/\m x=some u)\/((env.kindOf x=some .cell\/env.kindOf x=some .free)/\∃c,env.cells.lookup x=some c/\h.IsCell c (some u))
structure Cx.Ok(X:Cx):Prop where
 mod:Mod X.K X.mg X.base
 kind:X.env.scope.kind=.function
 glob:X.env.globals=My
 blt:X.env.builtins=RY
 above:X.s₀.heap.objs.size<=X.env.locals
 inj:∀x y c,X.env.cells.lookup x=some c->X.env.cells.lookup y=some c->x=y
 has:∀x,(X.env.kindOf x=some .cell\/X.env.kindOf x=some .free)->∃c,X.env.cells.lookup x=some c
 cab:∀x c,X.fn x=true->X.env.cells.lookup x=some c->X.s₀.heap.objs.size<=c
 hd:X.calm=true->X.A.handled=none
 frames:X.A.frames=some X.stack
 stk:X.stack=X.outer\/(X.stack=X.env::X.outer/\X.env.frame=some X.env.locals)
 exf:∀b∈X.ex,b≠X.env.locals/\∀x c,X.env.cells.lookup x=some c->c≠b
 bs:∀b o,X.base.get? b=some o->X.s₀.heap.get? b=some o/\X.H₀ b=none
 bsz:X.base.objs.size<=X.s₀.heap.objs.size
 noex:∀b o,X.base.get? b=some o->b∉X.ex
 exfs:∀b∈X.ex,b∉X.fs
 funs:X.s₀.heap.FunFrames X.base X.outer
 frf:∀b∈X.fs,X.H₀ b=none
structure Inv(X:Cx)(pz:List (Addr×Obj))(σ:List (Option V))(H:Hp)(s:g_):Prop where
 ok:X.Ok
 os:s.os=X.s₀.os
 bare:OW s.gens
 base:Un X.fs X.ex X.H₀ H X.s₀.heap s.heap
 loc:∃m,s.heap.Ns X.env.locals m/\∀(i:Nat)(x:Str)(v:V),X.N[i]? = some x->σ[i]? = some (some v)->fD X.env.scope x->∃u,am v u/\wL X.env s.heap m x u
 cell:∀x c,X.env.cells.lookup x=some c->∃v,s.heap.IsCell c v
 free:H X.env.locals=none
 freeC:∀x c,X.env.cells.lookup x=some c->H c=none
 pin:∀p∈X.pn++pz,s.heap.get? p.1=some p.2/\H p.1=none/\p.1≠X.env.locals/\p.1∉X.fs/\∀v,p.2.data≠.cell v
 hok:bU X.prog X.w H s.heap
 len:σ.length=X.N.length
section
variable{X:Cx}{pz:List (Addr×Obj)}{σ:List (Option V)}{H H':Hp}{s:g_}{h':Heap}
theorem Cx.Ok.nofr(ok:X.Ok){b:Addr}{o:Obj}(e:X.base.get? b=some o):b∉X.fs:=fun hb=>by have:=(ok.funs.mem hb).1;rw[e]at this;cases this
theorem Inv.bs(I:Inv X pz σ H s):∀b o,X.base.get? b=some o->s.heap.get? b=some o/\H b=none:=fun b o e=>⟨I.base.keep b o (I.ok.bs b o e).1 (I.ok.bs b o e).2 (I.ok.nofr e) (I.ok.noex b o e),I.base.free b o (I.ok.bs b o e).1 (I.ok.bs b o e).2 (I.ok.noex b o e)⟩
theorem Inv.bk(I:Inv X pz σ H s):∀b o,X.base.get? b=some o->s.heap.get? b=some o:=fun b o e=>(I.bs b o e).1
theorem Inv.mod(I:Inv X pz σ H s):Mod X.K X.mg X.base:=I.ok.mod
theorem Inv.kIn(I:Inv X pz σ H s):X.K.In s.heap:=I.ok.mod.kin.keeps I.bk
theorem Inv.nolimit(I:Inv X pz σ H s):s.heap.NoLimit:=I.ok.mod.nolimit.keeps I.bk
theorem Inv.fr(I:Inv X pz σ H s):∃m,Fr X.base X.env.locals s.heap m:=let⟨m,hn,_⟩:=I.loc
 ⟨m,hn,I.bk,MI I.ok.bsz I.ok.above⟩
theorem Inv.lt(I:Inv X pz σ H s):X.env.locals<s.heap.objs.size:=let⟨_,hn,_⟩:=I.loc;hn.lt
theorem Inv.sz(I:Inv X pz σ H s):X.s₀.heap.objs.size<=s.heap.objs.size:=MI I.ok.above (Q9 I.lt)
theorem Inv.nofs(I:Inv X pz σ H s){a:Addr}(h:s.heap.objs.size<=a):a∉X.fs:=fun hb=>by obtain⟨_,o,ho,_⟩:=I.ok.funs.mem hb;exact absurd (A_ (t_ ho) (MI I.sz h)) (MX _)
theorem Inv.cne(I:Inv X pz σ H s):∀x c,X.env.cells.lookup x=some c->c≠X.env.locals:=fun x c e z=>by obtain⟨v,o,ho,hd⟩:=I.cell x c e;obtain⟨m,⟨o',es,ep,ho',hd',_⟩,_⟩:=I.loc;rw[z,ho']at ho;cases ho;rw[hd']at hd;cases hd
theorem Inv.funs(I:Inv X pz σ H s):s.heap.FunFrames X.base X.outer:=by
 have all:∀(l:List Env),(∀b∈bQ l,b∈X.fs)->X.s₀.heap.FunFrames X.base l->s.heap.FunFrames X.base l:=by
  intro l
  induction l with
 |nil=>intro _ _;trivial
 |cons env r ih=>intro hs hl;obtain⟨hk,⟨L,o,hf,hn,ho,hd⟩,hr⟩:=hl;have hL:L∈X.fs:=hs L (by unfold bQ;rw[Nh,hf];exact e_);obtain⟨sl,e⟩:=I.base.slot L o ho (I.ok.frf L hL) hL fun z=>I.ok.exfs L z hL;exact⟨hk,⟨L,_,hf,hn,e,hd⟩,ih (fun b hb=>hs b (by unfold bQ;rw[Nh,hf];exact c_ _ hb)) hr⟩
 exact all X.outer (fun _ hb=>hb) I.ok.funs
theorem Inv.stack(I:Inv X pz σ H s):s.heap.FunFrames X.base X.stack:=by
 rcases I.ok.stk with e|⟨e,hf⟩
 .rw[e];exact I.funs
 .rw[e];obtain⟨m,hn,_⟩:=I.loc;refine .cons (by rw[I.ok.kind];decide) hf hn ?_ I.funs;exact QB (MI I.ok.bsz I.ok.above)
theorem Inv.stkSub(I:Inv X pz σ H s):∀b∈bQ X.stack,b∈X.env.locals::X.fs:=fun b hb=>by
 rcases I.ok.stk with e|⟨e,hf⟩
 .rw[e]at hb;exact c_ _ hb
 .rw[e]at hb;unfold bQ at hb;rw[Nh,hf]at hb;exact hb
theorem Inv.stkFree(I:Inv X pz σ H s):∀b∈bQ X.stack,H b=none:=fun b hb=>by
 rcases p_.mp (I.stkSub b hb)with e|hb
 .rw[e];exact I.free
 .obtain⟨_,o,ho,_⟩:=I.ok.funs.mem hb;exact I.base.free b o ho (I.ok.frf b hb) fun z=>I.ok.exfs b z hb
theorem Inv.step{g':Array GenState}{t':Nat}{d':Drawn}{ch:List Addr}(I:Inv X pz σ H s)(hch:∀b∈ch,(b∈X.ex\/X.s₀.heap.objs.size<=b)/\b≠X.env.locals/\(∀x c,X.env.cells.lookup x=some c->c≠b)/\∀p∈X.pn++pz,p.1≠b)(keep:∀b o,b≠X.env.locals->b∉X.fs->b∉ch->s.heap.get? b=some o->H b=none->h'.get? b=some o)(slot:∀b o,b≠X.env.locals->b∈X.fs->b∉ch->s.heap.get? b=some o->H b=none->∃sl,h'.get? b=some { o with slots:=sl })(free:∀b o,b∉ch->s.heap.get? b=some o->H b=none->H' b=none)(there:∀b o,b∉ch->s.heap.get? b=some o->∃o',h'.get? b=some o')(tups:∀b xs,H b=some (.tup xs)->H' b=some (.tup xs))(frzs:∀b o u,H b=some (.frz o u)->H' b=some (.frz o u))(tbls:∀b ps,H b=some (.tbl ps)->∃more,H' b=some (.tbl (ps++more)))(ns:∀m,s.heap.Ns X.env.locals m->h'.Ns X.env.locals m)(hok:bU X.prog X.w H' h')(hg:OW g'):Inv X pz σ H' { s with heap:=h',gens:=g',drawn:=d',toks:=t' }:=by
 have neL:∀b o,X.s₀.heap.get? b=some o->b≠X.env.locals:=fun b o e=>Mv (A_ (t_ e) I.ok.above);have neC:∀b o,X.s₀.heap.get? b=some o->b∉X.ex->b∉ch:=fun b o e hx hb=>by
  rcases(hch b hb).1 with z|z
  .exact hx z
  .exact absurd (A_ (t_ e) z) (MX _)
 have cellK:∀x c,X.env.cells.lookup x=some c->∀v,s.heap.IsCell c v->h'.IsCell c v:=fun x c e v ⟨o,ho,hd⟩=>by
  have nch:c∉ch:=fun z=>(hch c z).2.2.1 x c e rfl;by_cases hc:c∈X.fs
  .obtain⟨sl,q⟩:=slot c o (I.cne x c e) hc nch ho (I.freeC x c e);exact⟨_,q,hd⟩
  .exact⟨o,keep c o (I.cne x c e) hc nch ho (I.freeC x c e),hd⟩
 refine⟨I.ok,I.os,hg,⟨fun b o e n hb hx=>?_,fun b o e n hb hx=>?_,fun b o e n hx=>?_,fun b o e hx=>?_,fun b xs e=>tups b xs (I.base.tups b xs e),fun b o xs e=>frzs b o xs (I.base.frzs b o xs e),fun b ps e=>?_⟩,?_,fun x c e=>?_,?_,fun x c e=>?_,fun p hp=>?_,hok,I.len⟩
 .exact keep b o (neL b o e) hb (neC b o e hx) (I.base.keep b o e n hb hx) (I.base.free b o e n hx)
 .obtain⟨sl,e1⟩:=I.base.slot b o e n hb hx;obtain⟨sl',e2⟩:=slot b _ (neL b o e) hb (neC b o e hx) e1 (I.base.free b o e n hx);exact⟨sl',e2⟩
 .obtain⟨o',e1⟩:=I.base.there b o e hx;exact free b o' (neC b o e hx) e1 (I.base.free b o e n hx)
 .obtain⟨o',e1⟩:=I.base.there b o e hx;exact there b o' (neC b o e hx) e1
 .obtain⟨m1,e1⟩:=I.base.tbls b ps e;obtain⟨m2,e2⟩:=tbls b _ e1;exact⟨m1++m2,by rw[e2,QW]⟩
 .obtain⟨m,hn,hl⟩:=I.loc;refine⟨m,ns m hn,fun i x v e1 e2 e3=>?_⟩;obtain⟨u,r,l⟩:=hl i x v e1 e2 e3;refine⟨u,r,?_⟩;rcases l with l|⟨k,c,e,z⟩
  .exact .inl l
  .exact .inr ⟨k,c,e,cellK x c e _ z⟩
 .obtain⟨v,z⟩:=I.cell x c e;exact⟨v,cellK x c e v z⟩
 .obtain⟨m,⟨o,_,_,ho,_⟩,_⟩:=I.loc;exact free _ o (fun z=>(hch _ z).2.1 rfl) ho I.free
 .obtain⟨v,o,ho,hd⟩:=I.cell x c e;exact free c o (fun z=>(hch c z).2.2.1 x c e rfl) ho (I.freeC x c e)
 .obtain⟨e,n,ne,nf,d⟩:=I.pin p hp;have nch:p.1∉ch:=fun z=>(hch p.1 z).2.2.2 p hp rfl;exact⟨keep p.1 p.2 ne nf nch e n,free p.1 p.2 nch e n,ne,nf,d⟩
theorem Inv.un{t':Nat}(I:Inv X pz σ H s)(u:Un X.fs [] H H' s.heap h')(hok:bU X.prog X.w H' h'):Inv X pz σ H' { s with heap:=h',toks:=t' }:=by obtain⟨m,⟨o,es,ep,ho,r⟩,_⟩:=id I.loc;obtain⟨sl,hL⟩:=u.any ho I.free (by simp);exact I.step (g':=s.gens) (d':=s.drawn) (ch:=[]) (fun _ z=>nomatch z) (fun b o _ hb _ e n=>u.keep b o e n hb (by simp)) (fun b o _ hb _ e n=>u.slot b o e n hb (by simp)) (fun b o _ e n=>u.free b o e n (by simp)) (fun b o _ e=>u.there b o e (by simp)) u.tups u.frzs u.tbls (fun m' hm=>by obtain⟨o',es',ep',ho',r'⟩:=hm;rw[ho]at ho';cases ho';exact⟨_,es',ep',hL,r'⟩) hok I.bare
theorem Inv.call{g':Array GenState}{t':Nat}{d':Drawn}{ch:List Addr}(I:Inv X pz σ H s)(u:Un (bQ X.stack) ch H H' s.heap h')(hok:bU X.prog X.w H' h')(hg:OW g')(hch:∀b∈ch,(b∈X.ex\/X.s₀.heap.objs.size<=b)/\b≠X.env.locals/\(∀x c,X.env.cells.lookup x=some c->c≠b)/\∀p∈X.pn++pz,p.1≠b):Inv X pz σ H' { s with heap:=h',gens:=g',drawn:=d',toks:=t' }:=by obtain⟨m,⟨o,es,ep,ho,r⟩,_⟩:=id I.loc;obtain⟨sl,hL⟩:=u.any ho I.free fun z=>(hch _ z).2.1 rfl;exact I.step (ch:=ch) hch (fun b o hL hb hc e n=>u.keep b o e n (fun z=>(p_.mp (I.stkSub b z)).elim hL hb) hc) (fun b o _ _ hc e n=>u.any e n hc) (fun b o hc e n=>u.free b o e n hc) (fun b o hc e=>u.there b o e hc) u.tups u.frzs u.tbls (fun m' hm=>by obtain⟨o',es',ep',ho',r'⟩:=hm;rw[ho]at ho';cases ho';exact⟨_,es',ep',hL,r'⟩) hok hg
theorem Inv.turned{t':Nat}{it:Addr}(I:Inv X pz σ H s)(k:∀b o,b≠it->s.heap.get? b=some o->h'.get? b=some o)(hn:H it=none)(hL:it≠X.env.locals)(h1:it∈X.ex\/X.s₀.heap.objs.size<=it)(h2:∀x c,X.env.cells.lookup x=some c->c≠it)(h3:∀p∈X.pn++pz,p.1≠it):Inv X pz σ H { s with heap:=h',toks:=t' }:=by
 have nit:∀b u,H b=some u->b≠it:=fun b u e z=>by rw[z,hn]at e;cases e
 refine I.step (g':=s.gens) (d':=s.drawn) (ch:=[it]) (fun b hb=>?_) (fun b o _ _ hc e _=>k b o (fun z=>hc (by simp[z])) e) (fun b o _ _ hc e _=>⟨o.slots,k b o (fun z=>hc (by simp[z])) e⟩) (fun _ _ _ _ n=>n)
  (fun b o hc e=>⟨o,k b o (fun z=>hc (by simp[z])) e⟩) (fun _ _ e=>e) (fun _ _ _ e=>e) (fun b ps e=>⟨#[],by rw[e];simp⟩) (fun m hm=>?_) (fun b u e=>?_) I.bare
 .have e:b=it:=by simpa using hb
  subst e;exact⟨h1,hL,h2,h3⟩
 .obtain⟨o,es,ep,ho,r⟩:=hm;exact⟨o,es,ep,k _ o (NO hL) ho,r⟩
 .refine(I.hok b u e).stay (fun c v hc q=>k c v ?_ q) (fun _ q=>q) fun _ _ q=>q;rcases hc with z|z
  .rw[z];exact nit b u e
  .exact nit c _ z
theorem Inv.tok(I:Inv X pz σ H s)(t:Nat):Inv X pz σ H { s with toks:=t }:=I.un (h':=s.heap) (t':=t) Un.refl I.hok
theorem Inv.kept{t':Nat}(I:Inv X pz σ H s)(k:∀b u,s.heap.get? b=some u->h'.get? b=some u):Inv X pz σ H { s with heap:=h',toks:=t' }:=I.un (Un.kept k) (I.hok.kept k)
theorem Inv.laid{a:Addr}{o:HO}{t':Nat}(I:Inv X pz σ H s)(k:∀b u,s.heap.get? b=some u->h'.get? b=some u)(hp:s.heap.objs.size<=a)(new:bj X.prog X.w (upd H a o) h' a o):Inv X pz σ (upd H a o) { s with heap:=h',toks:=t' }:=I.un (Un.laid k hp (I.hok.fresh hp)) (I.hok.laid k hp new)
theorem Inv.write{x e:Addr}{o:HO}{t':Nat}(I:Inv X pz σ H s)(mu:nR (H x))(he:e=x\/H e=some (.own x))(k:∀b u,b≠e->s.heap.get? b=some u->h'.get? b=some u)(heo:∃u,h'.get? e=some u)(new:bj X.prog X.w (upd H x o) h' x o):Inv X pz σ (upd H x o) { s with heap:=h',toks:=t' }:=I.un (Un.write mu he k heo) (I.hok.write mu he k heo new)
theorem Inv.pins_of{pins':List (Addr×Obj)}(I:Inv X pz σ H s)(h:∀p∈pins',s.heap.get? p.1=some p.2/\H p.1=none/\p.1≠X.env.locals/\p.1∉X.fs/\∀v,p.2.data≠.cell v):Inv X pins' σ H s:=⟨I.ok,I.os,I.bare,I.base,I.loc,I.cell,I.free,I.freeC,fun p hp=>(M9.mp hp).elim (fun z=>I.pin p (MQ _ z)) (h p),I.hok,I.len⟩
theorem AY{N:List Str}(hN:N.Nodup){i j:Nat}{x:Str}(a:N[i]? = some x)(b:N[j]? = some x):i=j:=by obtain⟨h1,e1⟩:=h_.mp a;obtain⟨h2,e2⟩:=h_.mp b;exact(List.getElem_inj hN).mp (e1.trans e2.symm)
theorem Bz{M:RF}{A:Mw}{E:b_->g_->Prop}{i:Nat}{x:Str}{v:V}{u:b_}{Q:Unit->g_->Prop}(I:Inv X pz σ H s)(hN:X.N.Nodup)(hi:X.N[i]? = some x)(hx:gZ X.env.scope x)(r:am v u)(h:∀s',Inv X pz (σ.set i (some v)) H s'->(∃a,Pb a s.heap s'.heap/\(a=X.env.locals\/X.env.cells.lookup x=some a))->Q () s')(hf:X.fn x=true\/X.env.scope.names.lookup x=some .local:=by first|exact .inl rfl|exact .inr rfl|assumption):z_ M A (storeName X.env x u) Q E s:=by
 obtain⟨m,hn,hl⟩:=id I.loc;have hcls:(X.env.scope.kind==.class || (X.env.scope.kind==.module&&X.env.locals != X.env.globals))=false:=by rw[I.ok.kind];rfl
 have hiσ:i<σ.length:=by rw[I.len];exact(h_.mp hi).1
 have cne:=I.cne;have tracked:∀{a:Addr}{h':Heap},(∃o,s.heap.get? a=some o/\H a=none)->Pb a s.heap h'->bU X.prog X.w H h':=fun{a h'} ha hs b ob e=>by
  obtain⟨_,_,hfree⟩:=ha;refine(I.hok b ob e).stay (fun c w' hc q=>(hs.2 c ?_).trans q) (fun _ q=>q) fun _ _ q=>q
  rintro rfl
  rcases hc with rfl|hc
  .rw[hfree]at e;cases e
  .rw[hfree]at hc;cases hc
 rcases hx with hk|hk
 .refine wpAny_storeName_local hk hn (fun h' hn' hs=>?_) hcls;obtain⟨oL,_,_,hoL,_⟩:=id hn;refine h _ ⟨I.ok,I.os,I.bare,⟨fun b o e n hb hx=>?_,fun b o e n hb hx=>?_,I.base.free,fun b o e hx=>?_,I.base.tups,I.base.frzs,I.base.tbls⟩,⟨_,hn',fun j y v' e1 e2 e3=>?_⟩,fun y c e=>?_,I.free,I.freeC,fun p hp=>?_,tracked ⟨oL,hoL,I.free⟩ hs,by simpa using I.len⟩ ⟨_,hs,.inl rfl⟩
  .exact(hs.2 b (Mv (A_ (t_ e) I.ok.above))).trans (I.base.keep b o e n hb hx)
  .obtain⟨sl,e1⟩:=I.base.slot b o e n hb hx;exact⟨sl,(hs.2 b (Mv (A_ (t_ e) I.ok.above))).trans e1⟩
  .obtain⟨o',e1⟩:=I.base.there b o e hx;exact⟨o',(hs.2 b (Mv (A_ (t_ e) I.ok.above))).trans e1⟩
  .by_cases hj:j=i
   .subst hj;rw[hi]at e1;cases e1;rw[o_ hiσ]at e2;cases e2;exact⟨u,r,.inl ⟨hk,by simp⟩⟩
   .rw[d_ (NO hj)]at e2;obtain⟨u',r',q⟩:=hl j y v' e1 e2 e3;refine⟨u',r',?_⟩;rcases q with⟨k,e⟩|⟨k,c,e,z⟩
    .refine .inl ⟨k,?_⟩;have:y≠x:=fun e=>hj (AY hN e1 (e▸hi));simp[this,e]
    .exact .inr ⟨k,c,e,z.sameBut hs (cne y c e)⟩
  .obtain⟨w',z⟩:=I.cell y c e;exact⟨w',z.sameBut hs (cne y c e)⟩
  .obtain⟨e,n,ne,nf,d⟩:=I.pin p hp;exact⟨(hs.2 p.1 ne).trans e,n,ne,nf,d⟩
 .have hfn:X.fn x=true:=by
   rcases hf with z|z
   .exact z
   .rw[z]at hk;cases hk
  obtain⟨c,hc⟩:=I.ok.has x (.inl hk);obtain⟨w',z⟩:=I.cell x c hc;refine wpAny_storeName_cell I.ok.kind hk hc z (fun h' hc' hs=>?_);obtain⟨oc,hoc,hocd⟩:=id z;refine h { s with heap:=h' } ⟨I.ok,I.os,I.bare,⟨fun b o e n hb hx=>?_,fun b o e n hb hx=>?_,I.base.free,fun b o e hx=>?_,I.base.tups,I.base.frzs,I.base.tbls⟩,⟨m,hn.sameBut hs (NO (cne x c hc)),fun j y v' e1 e2 e3=>?_⟩,fun y c' e=>?_,I.free,I.freeC,fun p hp=>?_,tracked ⟨oc,hoc,I.freeC x c hc⟩ hs,by simpa using I.len⟩ ⟨c,hs,.inr hc⟩
  .exact(hs.2 b (Mv (A_ (t_ e) (I.ok.cab x c hfn hc)))).trans (I.base.keep b o e n hb hx)
  .obtain⟨sl,e1⟩:=I.base.slot b o e n hb hx;exact⟨sl,(hs.2 b (Mv (A_ (t_ e) (I.ok.cab x c hfn hc)))).trans e1⟩
  .obtain⟨o',e1⟩:=I.base.there b o e hx;exact⟨o',(hs.2 b (Mv (A_ (t_ e) (I.ok.cab x c hfn hc)))).trans e1⟩
  .by_cases hj:j=i
   .subst hj;rw[hi]at e1;cases e1;rw[o_ hiσ]at e2;cases e2;exact⟨u,r,.inr ⟨.inl hk,c,hc,hc'⟩⟩
   .rw[d_ (NO hj)]at e2;obtain⟨u',r',q⟩:=hl j y v' e1 e2 e3;refine⟨u',r',?_⟩;rcases q with q|⟨k,c',e,z'⟩
    .exact .inl q
    .refine .inr ⟨k,c',e,z'.sameBut hs ?_⟩
     rintro rfl
     exact hj (AY hN e1 (I.ok.inj _ _ _ e hc▸hi))
  .by_cases hcc:c'=c
   .subst hcc;exact⟨_,hc'⟩
   .obtain⟨w2,z2⟩:=I.cell y c' e;exact⟨w2,z2.sameBut hs hcc⟩
  .obtain⟨e,n,ne,nf,d⟩:=I.pin p hp;refine⟨(hs.2 p.1 ?_).trans e,n,ne,nf,d⟩;intro q;rw[q,hoc]at e;have q':oc=p.2:=C_ e;exact d w' (by rw[<-q'];exact hocd)
theorem oY{M:RF}{A:Mw}{E:b_->g_->Prop}{i:Nat}{x:Str}{v:V}{u:b_}{Q:Unit->g_->Prop}(I:Inv X pz σ H s)(hN:X.N.Nodup)(hi:X.N[i]? = some x)(hx:gZ X.env.scope x)(r:am v u)(h:∀s',Inv X pz (σ.set i (some v)) H s'->Q () s')(hf:X.fn x=true\/X.env.scope.names.lookup x=some .local:=by first|exact .inl rfl|exact .inr rfl|assumption):z_ M A (storeName X.env x u) Q E s:=Bz I hN hi hx r (fun s' I' _=>h s' I') hf
theorem Inv.call'{s':g_}{ch:List Addr}(I:Inv X pz σ H s)(ho:s'.os=s.os)(u:Un (bQ X.stack) ch H H' s.heap s'.heap)(hok:bU X.prog X.w H' s'.heap)(hg:OW s'.gens)(hch:∀b∈ch,(b∈X.ex\/X.s₀.heap.objs.size<=b)/\b≠X.env.locals/\(∀x c,X.env.cells.lookup x=some c->c≠b)/\∀p∈X.pn++pz,p.1≠b):Inv X pz σ H' s':=by obtain⟨h',g',d',t',o'⟩:=s';have e:o'=s.os:=ho;subst e;exact I.call (g':=g') (t':=t') (d':=d') u hok hg hch
end
abbrev XK:=b_->Option Addr->Hp->Prop
abbrev St:=List (Option V)
abbrev VK:=V->Hp->Prop
abbrev TE:=St->Hp->VK->Prop
abbrev TT:=St->Hp->(Bool->Hp->Prop)->Prop
abbrev TA:=St->Hp->(List V->Hp->Prop)->Prop
structure Ends where
 nx:St->Hp->Prop
 rt:VK
 bk:St->Hp->Prop:=fun _ _=>False
 ct:St->Hp->Prop:=fun _ _=>False
abbrev TS:=Ends->St->Hp->Prop
def EP(X:Cx)(pz:List (Addr×Obj))(σ:St)(Q:VK)(u:b_)(s':g_):Prop:=∃v H',Inv X pz σ H' s'/\am v u/\Q v H'
def TP(X:Cx)(pz:List (Addr×Obj))(σ:St)(Q:Bool->Hp->Prop)(b:Bool)(s':g_):Prop:=∃H',Inv X pz σ H' s'/\Q b H'
def AP(X:Cx)(pz:List (Addr×Obj))(σ:St)(Q:List V->Hp->Prop)(us:List b_)(s':g_):Prop:=∃vs H',Inv X pz σ H' s'/\ai vs us/\Q vs H'
def SP(X:Cx)(pz:List (Addr×Obj))(D:Ends)(f:Flow)(s':g_):Prop:=match f with
|.next=>∃σ' H',Inv X pz σ' H' s'/\D.nx σ' H'
|.brk=>∃σ' H',Inv X pz σ' H' s'/\D.bk σ' H'
|.cont=>∃σ' H',Inv X pz σ' H' s'/\D.ct σ' H'
|.ret u=>∃v σ' H',Inv X pz σ' H' s'/\am v u/\D.rt v H'
def PE(X:Cx)(e:Expr)(t:TE):Prop:=∀(pz:List (Addr×Obj))(s:g_)(σ:St)(H:Hp)(Q:VK),Inv X pz σ H s->t σ H Q->z_ (E_ X.prog X.w) X.A (eval e X.env) (EP X pz σ Q) X.xe s
def PT(X:Cx)(e:Expr)(t:TT):Prop:=∀(pz:List (Addr×Obj))(s:g_)(σ:St)(H:Hp)(Q:Bool->Hp->Prop),Inv X pz σ H s->t σ H Q->z_ (E_ X.prog X.w) X.A (isTrue e X.env (eval e X.env)) (TP X pz σ Q) X.xe s
def PW(X:Cx)(e:Expr)(t:TT):Prop:=∀(whole:Sem b_)(pz:List (Addr×Obj))(s:g_)(σ:St)(H:Hp)(Q:Bool->Hp->Prop),Inv X pz σ H s->t σ H Q->z_ (E_ X.prog X.w) X.A (isTrue e X.env whole) (TP X pz σ Q) X.xe s
theorem PW.pt{X:Cx}{e:Expr}{t:TT}(h:PW X e t):PT X e t:=h _
def PA(X:Cx)(es:List Expr)(t:TA):Prop:=∀(pos:Pos)(pz:List (Addr×Obj))(s:g_)(σ:St)(H:Hp)(Q:List V->Hp->Prop),Inv X pz σ H s->t σ H Q->z_ (E_ X.prog X.w) X.A (spliced (backTo pos (j_ es X.env))) (AP X pz σ Q) X.xe s
def PS(X:Cx)(st:Stmt)(t:TS):Prop:=∀(pz:List (Addr×Obj))(s:g_)(σ:St)(H:Hp)(D:Ends),Inv X pz σ H s->t D σ H->z_ (E_ X.prog X.w) X.A (exec st X.env) (SP X pz D) X.xe s
def c6(X:Cx)(st:List Stmt)(t:TS):Prop:=∀(pz:List (Addr×Obj))(s:g_)(σ:St)(H:Hp)(D:Ends),Inv X pz σ H s->t D σ H->z_ (E_ X.prog X.w) X.A (execs st X.env) (SP X pz D) X.xe s
theorem aG{α:Type}{t:Sem α}{Q Q':α->g_->Prop}{M:RF}{A:Mw}{E:b_->g_->Prop}{s:g_}(h:z_ M A t Q E s)(hQ:∀a s,Q a s->Q' a s):z_ M A t Q' E s:=MS h hQ fun _ _ x=>x
section
variable{X:Cx}
def vE(i:Nat):TE:=fun σ H Q=>∃v,σ[i]? = some (some v)/\Q v H
def tC(v:V):TE:=fun _ H Q=>Q v H
theorem kO{i:Nat}{x:Str}{pos:Pos}(hN:X.N[i]? = some x)(hv:fD X.env.scope x)(hd:(x==("__debug__" : Str))=false:=by decide)(hcd:(x==("__classdict__" : Str))=false:=by decide):PE X (.Name x pos) (vE i):=by
 intro pz s σ H Q I h;obtain⟨v,e,h⟩:=h;obtain⟨m,hn,hl⟩:=I.loc;obtain⟨u,r,l⟩:=hl i x v hN e hv;have fin:EP X pz σ Q u s:=⟨v,H,I,r,h⟩
 rcases l with⟨hk,hm⟩|⟨hk,c,hc,hcell⟩
 .exact RZ (wpAny_loadName_local I.ok.kind hk hn hm fin) hd
 .rcases hk with hk|hk
  .exact RZ (wpAny_loadName_cell I.ok.kind hk hc hcell fin) hd
  .exact RZ (wpAny_loadName_free I.ok.kind hk hc hcell fin hcd) hd
theorem Es{i j pos}:PE X (.Constant (.int i) j pos) (tC (.int i)):=fun _ _ _ H _ I h=>wpAny_Constant_int ⟨.int i,H,I.tok _,⟨_,rfl⟩,h⟩
theorem D8{b j pos}:PE X (.Constant (.bool b) j pos) (tC (.bl b)):=fun _ _ _ H _ I h=>Constant_bool ⟨.bl b,H,I,rfl,h⟩
theorem Eu{j pos}:PE X (.Constant .none j pos) (tC .non):=fun _ _ _ H _ I h=>Constant_none ⟨.non,H,I,rfl,h⟩
theorem Ex{x j pos}:PE X (.Constant (.str x) j pos) (tC (.str x)):=fun _ _ _ H _ I h=>Calls.Constant_str ⟨.str x,H,I.tok _,⟨_,rfl⟩,h⟩
def Gl(X:Cx)(x:Str):Prop:=X.env.kindOf x=some .globalImplicit
theorem l7{E:b_->g_->Prop}{pz:List (Addr×Obj)}{s:g_}{σ:St}{H:Hp}{x:Str}{u:b_}{pos:Pos}{Q:b_->g_->Prop}(I:Inv X pz σ H s)(hg:Gl X x)(hm:X.mg x=some u)(h:Q u s)(hd:(x==("__debug__" : Str))=false:=by decide):z_ (E_ X.prog X.w) X.A (eval (.Name x pos) X.env) Q E s:=Pd I.ok.kind hg (Calls.loadGlobal_global (by rw[I.ok.glob];exact I.mod.glob.keeps I.bk) hm h) hd
theorem lU{E:b_->g_->Prop}{pz:List (Addr×Obj)}{s:g_}{σ:St}{H:Hp}{x:Str}{u:b_}{pos:Pos}{Q:b_->g_->Prop}(I:Inv X pz σ H s)(hg:Gl X x)(hm:X.mg x=none)(hv:NX x=some u)(h:Q u s)(hn:x≠"__name__" := by decide)(hd:(x==("__debug__" : Str))=false:=by decide):z_ (E_ X.prog X.w) X.A (eval (.Name x pos) X.env) Q E s:=by obtain⟨mb,h1,h2⟩:=I.mod.blt;exact Pd I.ok.kind hg (Calls.loadGlobal_builtin (by rw[I.ok.glob];exact I.mod.glob.keeps I.bk) hm (by rw[I.ok.blt];exact h1.keeps I.bk) ((h2 x hn).trans hv) h) hd
theorem rW{x:Str}{v:V}{u:b_}{pos:Pos}(hg:Gl X x)(hm:X.mg x=some u)(r:am v u)(hd:(x==("__debug__" : Str))=false:=by decide):PE X (.Name x pos) (tC v):=fun _ _ _ H _ I h=>l7 I hg hm ⟨v,H,I,r,h⟩ hd
theorem Ao{x:Str}{v:V}{u:b_}{pos:Pos}(hg:Gl X x)(hm:X.mg x=none)(hv:NX x=some u)(r:am v u)(hn:x≠"__name__" := by decide)(hd:(x==("__debug__" : Str))=false:=by decide):PE X (.Name x pos) (tC v):=fun _ _ _ H _ I h=>lU I hg hm hv ⟨v,H,I,r,h⟩ hn hd
variable{a b:Expr}{ta tb:TE}{pos:Pos}
def tB(t:TE):TT:=fun σ H Q=>t σ H fun x H1=>∃c,x=.bl c/\Q c H1
variable{tA tB':TT}{rest:List Expr}
def vR(t u:TT):TT:=fun σ H Q=>t σ H fun c H1=>if c=true then u σ H1 Q else Q false H1
def L9(t u:TT):TT:=fun σ H Q=>t σ H fun c H1=>if c=true then Q true H1 else u σ H1 Q
def vJ(t:TT):TT:=fun σ H Q=>t σ H fun c H1=>Q (! c) H1
theorem Gs(ha:PT X a tA):PW X (.BoolOp .And [a] pos) tA:=by intro wh pz s σ H Q I h;refine isTrue_and (aG (ha pz s σ H Q I h) fun c s1 e=>?_);cases c with
|true=>exact isTrue_and_nil e
|false=>exact e
theorem F1(ha:PT X a tA):PW X (.BoolOp .Or [a] pos) tA:=by intro wh pz s σ H Q I h;refine isTrue_or (aG (ha pz s σ H Q I h) fun c s1 e=>?_);cases c with
|false=>exact isTrue_or_nil e
|true=>exact e
theorem F0(ha:PT X a tA)(hb:PW X (.BoolOp .And (b::rest) pos) tB'):PW X (.BoolOp .And (a::b::rest) pos) (vR tA tB'):=by intro wh pz s σ H Q I h;refine isTrue_and (aG (ha pz s σ H _ I h) fun c s1 ⟨H1,I1,q1⟩=>?_);cases c with
|true=>exact hb wh pz s1 σ H1 Q I1 q1
|false=>exact⟨H1,I1,q1⟩
theorem Ee(ha:PT X a tA)(hb:PW X (.BoolOp .Or (b::rest) pos) tB'):PW X (.BoolOp .Or (a::b::rest) pos) (L9 tA tB'):=by intro wh pz s σ H Q I h;refine isTrue_or (aG (ha pz s σ H _ I h) fun c s1 ⟨H1,I1,q1⟩=>?_);cases c with
|true=>exact⟨H1,I1,q1⟩
|false=>exact hb wh pz s1 σ H1 Q I1 q1
theorem EF(ha:PT X a tA):PT X (.UnaryOp .Not a pos) (vJ tA):=by intro pz s σ H Q I h;exact isTrue_not (ha pz s σ H (fun c H1=>Q (! c) H1) I h)
def DU(ta tb:TE):TE:=fun σ H Q=>ta σ H fun x H1=>∃c,x=.bl c/\if c=true then tb σ H1 Q else Q (.bl false) H1
def vI(ta tb:TE):TE:=fun σ H Q=>ta σ H fun x H1=>∃c,x=.bl c/\if c=true then Q (.bl true) H1 else tb σ H1 Q
def DZ(ta:TE):TE:=fun σ H Q=>ta σ H fun x H1=>∃c,x=.bl c/\Q (.bl (! c)) H1
theorem Ew{op}{t:TE}(h:PE X a t):PE X (.BoolOp op [a] pos) t:=fun pz s σ H Q I hw=>BoolOp_one (h pz s σ H Q I hw)
theorem Ep(ha:PE X a ta)(hb:PE X (.BoolOp .And (b::rest) pos) tb):PE X (.BoolOp .And (a::b::rest) pos) (DU ta tb):=by intro pz s σ H Q I h;refine BoolOp_and (aG (ha pz s σ H _ I h) fun v s1 ⟨x,H1,I1,r1,q1⟩=>?_);obtain⟨c,rfl,q1⟩:=q1;cases r1;refine ND ?_;cases c with
|true=>exact hb pz s1 σ H1 Q I1 q1
|false=>exact⟨.bl false,H1,I1,rfl,q1⟩
theorem Eb(ha:PE X a ta)(hb:PE X (.BoolOp .Or (b::rest) pos) tb):PE X (.BoolOp .Or (a::b::rest) pos) (vI ta tb):=by intro pz s σ H Q I h;refine BoolOp_or (aG (ha pz s σ H _ I h) fun v s1 ⟨x,H1,I1,r1,q1⟩=>?_);obtain⟨c,rfl,q1⟩:=q1;cases r1;refine ND ?_;cases c with
|false=>exact hb pz s1 σ H1 Q I1 q1
|true=>exact⟨.bl true,H1,I1,rfl,q1⟩
theorem Ev(ha:PE X a ta):PE X (.UnaryOp .Not a pos) (DZ ta):=by intro pz s σ H Q I h;refine UnaryOp_ (aG (ha pz s σ H _ I h) fun v s1 ⟨x,H1,I1,r1,q1⟩=>?_);obtain⟨c,rfl,q1⟩:=q1;cases r1;exact not_of (ND ⟨.bl (! c),H1,I1,rfl,q1⟩)
def Mb(t:TT)(ta tb:TE):TE:=fun σ H Q=>t σ H fun c H1=>if c=true then ta σ H1 Q else tb σ H1 Q
theorem IL{c:Expr}(hc:PT X c tA)(ha:PE X a ta)(hb:PE X b tb):PE X (.IfExp c a b pos) (Mb tA ta tb):=by intro pz s σ H Q I h;refine wpAny_IfExp (aG (hc pz s σ H _ I h) fun d s1 ⟨H1,I1,q1⟩=>?_);cases d with
|true=>exact ha pz s1 σ H1 Q I1 q1
|false=>exact hb pz s1 σ H1 Q I1 q1
end
def aU(K:W.Frag)(H:Hp)(a:Addr)(xs:List V):Prop:=Rd H a (.lst xs) \/∃(o:Obj)(its:Array b_)(n:Nat),K.lookup a=some o/\o.cls=.type "list"/\o.dict=none/\o.data=.seq its n/\its.size<=sizeLine/\ai xs its.toList
def bI(K:W.Frag)(H:Hp)(a:Addr)(xs:List V):Prop:=Rd H a (.tup xs) \/∃(o:Obj)(its:Array b_)(n:Nat),K.lookup a=some o/\o.cls=.type "tuple"/\o.data=.seq its n/\its.size<=sizeLine/\ai xs its.toList
def wH:b_->Option V
|.none=>some .non
|.bool b=>some (.bl b)
|.int i _=>some (.int i)
|.str x _=>some (.str x)
|.bytes b _=>some (.byt b)
|.float b _=>some (.flt b)
|.ref a=>some (.ref a)
|.type n=>some (.ty n)
|_=>none
theorem am.abs{x:V}{u:b_}(r:am x u):wH u=some x:=by cases x with
|non=>cases r;rfl
|bl _=>cases r;rfl
|int _=>obtain⟨t,rfl⟩:=r;rfl
|str _=>obtain⟨t,rfl⟩:=r;rfl
|byt _=>obtain⟨t,rfl⟩:=r;rfl
|flt _=>obtain⟨t,rfl⟩:=r;rfl
|ref _=>cases r;rfl
|ty _=>cases r;rfl
theorem am.inj{x y:V}{u:b_}(r:am x u)(q:am y u):x=y:=C_ (r.abs.symm.trans q.abs)
theorem ai.inj{xs ys:List V}{us:List b_}(h:ai xs us)(h':ai ys us):xs=ys:=by induction h generalizing ys with
|nil=>cases h';rfl
|cons r t ih=>cases h' with
 |cons r' t'=>rw[r.inj r',ih t']
section
variable{X:Cx}{pz:List (Addr×Obj)}{σ:St}{H:Hp}{s:g_}{a:Addr}{xs ys:List V}
theorem aU.of{K:W.Frag}(h:H a=some (.lst xs)):aU K H a xs:=.inl (.inl h)
theorem bI.of{K:W.Frag}(h:H a=some (.tup xs)):bI K H a xs:=.inl (.inl h)
theorem Inv.list(I:Inv X pz σ H s)(h:aU X.K H a xs):∃its:List b_,ai xs its/\PlainL s.heap a its.toArray/\xs.length<=sizeLine:=by
 rcases h with h|⟨o,its,n,hk,hc,hd,hs,hz,r⟩
 .obtain⟨z,its,n,r,e⟩:=h.ok I.hok;exact⟨its,r,⟨_,n,e,rfl,rfl,rfl⟩,z⟩
 .refine⟨its.toList,r,⟨o,n,I.kIn a o hk,hc,hd,by simpa using hs⟩,?_⟩;have e:=r.length;simp only[NP]at e;omega
theorem Inv.tuple(I:Inv X pz σ H s)(h:bI X.K H a xs):∃its:List b_,ai xs its/\Q7 s.heap a its.toArray/\xs.length<=sizeLine:=by
 rcases h with h|⟨o,its,n,hk,hc,hs,hz,r⟩
 .obtain⟨z,its,r,p,_⟩:=h.ok I.hok;exact⟨its,r,p,z⟩
 .refine⟨its.toList,r,⟨o,I.kIn a o hk,hc,n,by simpa using hs⟩,?_⟩;have e:=r.length;simp only[NP]at e;omega
theorem Inv.list_inj(I:Inv X pz σ H s)(h:aU X.K H a xs)(h':aU X.K H a ys):xs=ys:=by
 obtain⟨its,r,⟨o,n,e,_,_,d⟩,_⟩:=I.list h;obtain⟨its',r',⟨o',n',e',_,_,d'⟩,_⟩:=I.list h';rw[e]at e';cases e';rw[d]at d';injection d' with d1 _
 have:its=its':=by simpa using congrArg Ta d1
 subst this;exact r.inj r'
theorem Inv.tuple_inj(I:Inv X pz σ H s)(h:bI X.K H a xs)(h':bI X.K H a ys):xs=ys:=by
 obtain⟨its,r,⟨o,e,_,n,d⟩,_⟩:=I.tuple h;obtain⟨its',r',⟨o',e',_,n',d'⟩,_⟩:=I.tuple h';rw[e]at e';cases e';rw[d]at d';injection d' with d1 _
 have:its=its':=by simpa using congrArg Ta d1
 subst this;exact r.inj r'
end
abbrev Cx.wish(X:Cx)(E:b_->g_->Prop):Cx:={ X with xe:=E }
abbrev Cx.nox(X:Cx):Cx:=X.wish fun _ _=>False
theorem Cx.Ok.wish{X:Cx}(ok:X.Ok)(E:b_->g_->Prop):(X.wish E).Ok:=⟨ok.mod,ok.kind,ok.glob,ok.blt,ok.above,ok.inj,ok.has,ok.cab,ok.hd,ok.frames,ok.stk,ok.exf,ok.bs,ok.bsz,ok.noex,ok.exfs,ok.funs,ok.frf⟩
theorem Cx.Ok.unwish{X:Cx}{E:b_->g_->Prop}(ok:(X.wish E).Ok):X.Ok:=⟨ok.mod,ok.kind,ok.glob,ok.blt,ok.above,ok.inj,ok.has,ok.cab,ok.hd,ok.frames,ok.stk,ok.exf,ok.bs,ok.bsz,ok.noex,ok.exfs,ok.funs,ok.frf⟩
section
variable{X:Cx}{pz:List (Addr×Obj)}{σ:St}{H:Hp}{s:g_}{E:b_->g_->Prop}
theorem Inv.wish(I:Inv X pz σ H s)(E:b_->g_->Prop):Inv (X.wish E) pz σ H s:=⟨I.ok.wish E,I.os,I.bare,I.base,I.loc,I.cell,I.free,I.freeC,I.pin,I.hok,I.len⟩
theorem Inv.unwish(I:Inv (X.wish E) pz σ H s):Inv X pz σ H s:=⟨I.ok.unwish,I.os,I.bare,I.base,I.loc,I.cell,I.free,I.freeC,I.pin,I.hok,I.len⟩
theorem SP.unwish{D:Ends}{f:Flow}{s':g_}(h:SP (X.wish E) pz D f s'):SP X pz D f s':=by cases f with
|next=>obtain⟨σ',H',I,q⟩:=h;exact⟨σ',H',I.unwish,q⟩
|brk=>obtain⟨σ',H',I,q⟩:=h;exact⟨σ',H',I.unwish,q⟩
|cont=>obtain⟨σ',H',I,q⟩:=h;exact⟨σ',H',I.unwish,q⟩
|ret u=>obtain⟨v,σ',H',I,r,q⟩:=h;exact⟨v,σ',H',I.unwish,r,q⟩
theorem PE.nox{e:Expr}{t:TE}(h:PE X.nox e t):PE X e t:=fun pz s σ H Q I hw=>MS (h pz s σ H Q (I.wish _) hw) (fun _ _ ⟨v,H',I',r,q⟩=>⟨v,H',I'.unwish,r,q⟩) fun _ _ z=>MY z
theorem PT.nox{e:Expr}{t:TT}(h:PT X.nox e t):PT X e t:=fun pz s σ H Q I hw=>MS (h pz s σ H Q (I.wish _) hw) (fun _ _ ⟨H',I',q⟩=>⟨H',I'.unwish,q⟩) fun _ _ z=>MY z
theorem c6.nox{st:List Stmt}{t:TS}(h:c6 X.nox st t):c6 X st t:=fun pz s σ H D I hw=>MS (h pz s σ H D (I.wish _) hw) (fun _ _ q=>q.unwish) fun _ _ z=>MY z
end
section
variable{X:Cx}{st:Stmt}{rest:List Stmt}{t u:TS}{e:Expr}{te:TE}{pos:Pos}
def DY:TS:=fun D σ H=>D.nx σ H
def vG(t u:TS):TS:=fun D σ H=>t { D with nx:=u D } σ H
theorem Gp:c6 X [] DY:=fun _ _ σ H _ I h=>O3 ⟨σ,H,I,h⟩
theorem IX(h1:PS X st t)(h2:c6 X rest u):c6 X (st::rest) (vG t u):=by intro pz s σ H D I h;refine wpAny_execs_cons (aG (h1 pz s σ H { D with nx:=u D } I h) fun f s1 q=>?_);cases f with
|next=>obtain⟨σ',H',I',q⟩:=q;exact h2 pz s1 σ' H' D I' q
|ret v=>exact q
|brk=>exact q
|cont=>exact q
theorem Inv.quiet{pz:List (Addr×Obj)}{σ:St}{H:Hp}{s:g_}(I:Inv X pz σ H s):interactive X.env=false:=by simp[interactive,I.ok.kind]
def DX(te:TE):TS:=fun D σ H=>te σ H fun _ H1=>D.nx σ H1
theorem z8(he:PE X e te)(hs:Pc e none pos.line X.env=pure false:=by rfl):PS X (.Expr e pos) (DX te):=by intro pz s σ H D I h;exact wpAny_Expr_any (aG (he pz s σ H _ I h) fun v s1 ⟨x,H1,I1,r1,q1⟩=>⟨σ,H1,I1,q1⟩) I.quiet hs
def vH(te:TE):TS:=fun D σ H=>te σ H D.rt
theorem EE(he:PE X e te):PS X (.Return (some e) pos) (vH te):=by intro pz s σ H D I h;exact wpAny_Return_some (aG (he pz s σ H _ I h) fun v s1 ⟨x,H1,I1,r1,q1⟩=>⟨x,σ,H1,I1,r1,q1⟩)
def vN(c:TT)(t u:TS):TS:=fun D σ H=>c σ H fun b H1=>if b=true then t D σ H1 else u D σ H1
theorem Ed{c:Expr}{a b:List Stmt}{tc:TT}(hc:PT X c tc)(ha:c6 X a t)(hb:c6 X b u):PS X (.If c a b pos) (vN tc t u):=by intro pz s σ H D I h;refine wpAny_If (aG (hc pz s σ H _ I h) fun d s1 ⟨H1,I1,q1⟩=>?_);cases d with
|true=>exact ha pz s1 σ H1 D I1 q1
|false=>exact hb pz s1 σ H1 D I1 q1
def y9:TS:=fun _ _ _=>False
theorem IV:PS X st y9:=fun _ _ _ _ _ _ h=>h.elim
theorem J5{sts:List Stmt}:c6 X sts y9:=fun _ _ _ _ _ _ h=>h.elim
end
abbrev TG:=V->St->Hp->(St->Hp->Prop)->Prop
abbrev ig:=List V->St->Hp->(St->Hp->Prop)->Prop
def PG(X:Cx)(target:Expr)(t:TG):Prop:=∀(pz:List (Addr×Obj))(s:g_)(σ:St)(H:Hp)(v:V)(u:b_)(Q:St->Hp->Prop),Inv X pz σ H s->am v u->t v σ H Q ->z_ (E_ X.prog X.w) X.A (Pe target X.env u) (fun _ s'=>∃σ' H',Inv X pz σ' H' s'/\Q σ' H') X.xe s
def gY(X:Cx)(ts:List Expr)(t:ig):Prop:=∀(pz:List (Addr×Obj))(s:g_)(σ:St)(H:Hp)(vs:List V)(us:List b_)(Q:St->Hp->Prop),Inv X pz σ H s->ai vs us->t vs σ H Q ->z_ (E_ X.prog X.w) X.A (assignInOrder ((Nl ts X.env).map (·.2)) us) (fun _ s'=>∃σ' H',Inv X pz σ' H' s'/\Q σ' H') X.xe s
abbrev iM:=V->V->V->Hp->(Hp->Prop)->Prop
def d5(X:Cx)(t:iM):Prop:=∀(pz:List (Addr×Obj))(s:g_)(σ:St)(H:Hp)(o i v:V)(ov iv u:b_)(Q:Hp->Prop),Inv X pz σ H s->am o ov->am i iv->am v u->t o i v H Q ->z_ (E_ X.prog X.w) X.A (Tb ov iv u) (fun _ s'=>∃H',Inv X pz σ H' s'/\Q H') X.xe s
section
variable{X:Cx}{pos:Pos}
def wY(i:Nat):TG:=fun v σ H Q=>Q (σ.set i (some v)) H
theorem Gj{i:Nat}{x:Str}(hN:X.N.Nodup)(hi:X.N[i]? = some x)(hx:gZ X.env.scope x)(hf:X.fn x=true\/X.env.scope.names.lookup x=some .local:=by first|exact .inl rfl|exact .inr rfl|assumption):PG X (.Name x pos) (wY i):=by intro pz s σ H v u Q I r h;exact Q_ (oY I hN hi hx r (fun s' I'=>⟨_,H,I',h⟩) hf)
def wE:ig:=fun vs σ H Q=>vs=[]/\Q σ H
def C6(t:TG)(u:ig):ig:=fun vs σ H Q=>∃v r,vs=v::r/\t v σ H fun σ' H'=>u r σ' H' Q
theorem Gk:gY X [] wE:=by intro pz s σ H vs us Q I r h;obtain⟨e,h⟩:=h;subst e;cases r;exact assignInOrder_nil ⟨σ,H,I,h⟩
theorem IM{e:Expr}{es:List Expr}{t:TG}{u:ig}(h1:PG X e t)(h2:gY X es u)(hs:(Nl (e::es) X.env).map (·.2)=Pe e X.env::(Nl es X.env).map (·.2):=by rfl):gY X (e::es) (C6 t u):=by intro pz s σ H vs us Q I r h;obtain⟨v,vr,e1,h⟩:=h;subst e1;cases r with
|cons r rr=>rw[hs];refine assignInOrder_cons (aG (h1 pz s σ H _ _ _ I r h) fun _ s1 ⟨σ1,H1,I1,q1⟩=>?_);exact h2 pz s1 σ1 H1 _ _ Q I1 rr q1
def wC(K:W.Frag)(n:Nat)(t:ig):TG:=fun v σ H Q=>∃a xs,v=.ref a/\bI K H a xs/\xs.length=n/\t xs σ H Q
theorem EA{es:List Expr}{k:Nat}{t:ig}{n:Nat}(hc:X.calm=true)(h:gY X es t)(hn:(Nl es X.env).length=n:=by rfl)(hst:(Nl es X.env).findIdx? (·.1)=none:=by rfl):PG X (.Tuple es k pos) (wC X.K n t):=by intro pz s σ H v u Q I r hw;obtain⟨a,xs,e1,hq,hl,hw⟩:=hw;subst e1;cases r;obtain⟨its,rv,ht,hz⟩:=I.tuple hq;refine assign_Tuple_tuple (I.ok.hd hc) ht (by simp[hn,<-hl,rv.length]) hst fun h' hx=>?_;have I1:Inv X pz σ H { s with heap:=h' }:=I.kept (t':=s.toks) fun b o e=>hx b o (Mv (t_ e)) e;exact h pz _ σ H xs _ Q I1 (by simpa using rv) hw
def wD(to ti:TE)(t:iM):TG:=fun v σ H Q=>to σ H fun o H1=>ti σ H1 fun i H2=>t o i v H2 fun H3=>Q σ H3
theorem Ez{o i:Expr}{to ti:TE}{t:iM}(ho:PE X o to)(hi:PE X i ti)(hs:d5 X t)(ha:∀v,Pe (.Subscript o i pos) X.env v=(do
   let ov <-Pv [v] (eval o X.env);let iv <-Pv [v,ov] (eval i X.env)
   Tc pos
   Pv [v,ov,iv] (Tb ov iv v)
   release [v,ov,iv] []):=by intro _;rfl):PG X (.Subscript o i pos) (wD to ti t):=by intro pz s σ H v u Q I r h;rw[ha];refine f_ (Nc (aG (ho pz s σ H _ I h) fun ov s1 ⟨x,H1,I1,r1,q1⟩=>?_));refine f_ (Nc (aG (hi pz s1 σ H1 _ I1 q1) fun iv s2 ⟨y,H2,I2,r2,q2⟩=>?_));refine f_ (PJ (f_ (Nc (aG (hs pz s2 σ H2 x y v ov iv u _ I2 r1 r2 r q2) fun _ s3 ⟨H3,I3,q3⟩=>?_))));exact wpAny_release ⟨σ,H3,I3,q3⟩
def na(te:TE)(g:TG):TS:=fun D σ H=>te σ H fun x H1=>g x σ H1 D.nx
theorem ED{tg e:Expr}{te:TE}{g:TG}(he:PE X e te)(hg:PG X tg g)(hs:swapsWithSole [tg] e pos.line X.env=pure false:=by rfl)(hw:swappedStores [tg] e X.env=pure none:=by rfl)(h1:(Nl [tg] X.env).map (·.2)=[Pe tg X.env]:=by rfl):PS X (.Assign [tg] e pos) (na te g):=by intro pz s σ H D I h;refine wpAny_Assign_stores (aG (he pz s σ H _ I h) fun v s1 ⟨x,H1,I1,r1,q1⟩=>?_) hs hw;rw[h1];exact aG (hg pz s1 σ H1 x v _ I1 r1 q1) fun _ s2 q=>q
theorem yT{i:Nat}{x:Str}{e:Expr}{te:TE}{pos':Pos}(hN:X.N.Nodup)(hi:X.N[i]? = some x)(hx:gZ X.env.scope x)(he:PE X e te)(hs:Pc e (some (.Name x pos')) pos.line X.env=pure false:=by rfl)(hf:X.fn x=true\/X.env.scope.names.lookup x=some .local:=by first|exact .inl rfl|exact .inr rfl|assumption):PS X (.Assign [.Name x pos'] e pos) (na te (wY i)):=by intro pz s σ H D I h;refine wpAny_Assign_Name (aG (he pz s σ H _ I h) fun v s1 ⟨y,H1,I1,r1,q1⟩=>?_) hs;exact oY I1 hN hi hx r1 (fun s2 I2=>⟨_,H1,I2,q1⟩) hf
end
section
variable{X:Cx}{pos:Pos}
def Ff(c:TT)(tb:TS):TS:=fun D σ H=>∃W:Nat->St->Hp->Prop,(∃m,W m σ H)/\∀m σ H,W m σ H ->c σ H fun b H1=>if b=true then ∃N:St->Hp->Prop,(∀σ' H',N σ' H'->∃m',m'<m/\W m' σ' H')/\tb { D with nx:=N,ct:=N,bk:=D.nx } σ H1 else D.nx σ H1
theorem IW{c:Expr}{body:List Stmt}{tc:TT}{tb:TS}(hp:PV (E_ X.prog X.w) X.A X.env X.xe)(hc:PT X c tc)(hb:c6 X body tb):PS X (.While c body [] pos) (Ff tc tb):=by
 intro pz s σ H D I h;obtain⟨W,⟨m0,w0⟩,turn⟩:=h;refine wpAny_While (codeAny_whileLoop (fun n s'=>∃σ' H',Inv X pz σ' H' s'/\W n σ' H') ?_ m0 ⟨σ,H,I,w0⟩)
 rintro n s1 ⟨σ1,H1,I1,w1⟩
 refine NB hp (aG (hc pz s1 σ1 H1 _ I1 (turn n σ1 H1 w1)) fun b s2 ⟨H2,I2,q2⟩=>?_);cases b with
|true=>obtain⟨N,hN,q2⟩:=q2;rw[if_pos rfl];refine NB hp (aG (hb pz s2 σ1 H2 _ I2 q2) fun f s3 q3=>?_);cases f with
 |next=>obtain⟨σ3,H3,I3,n3⟩:=q3;obtain⟨m',hm,w3⟩:=hN σ3 H3 n3;exact⟨m',hm,σ3,H3,I3,w3⟩
 |cont=>obtain⟨σ3,H3,I3,n3⟩:=q3;obtain⟨m',hm,w3⟩:=hN σ3 H3 n3;exact⟨m',hm,σ3,H3,I3,w3⟩
 |brk=>exact q3
 |ret v=>exact q3
|false=>rw[if_neg i_];exact O3 ⟨σ1,H2,I2,q2⟩
end
structure It where
 go:Nat->Hp->Prop
 yld:Nat->Hp->V->Hp->Prop
 stop:Nat->Hp->Prop
def cS(X:Cx)(pz:List (Addr×Obj))(H:Hp)(b:Addr):Prop:=H b=none/\b≠X.env.locals/\b∉X.fs/\(b∈X.ex\/X.s₀.heap.objs.size<=b)/\(∀x c,X.env.cells.lookup x=some c->c≠b)/\∀p∈X.pn++pz,p.1≠b
theorem Inv.fpOk{X:Cx}{pz:List (Addr×Obj)}{σ:St}{H H':Hp}{s:g_}{b:Addr}(I:Inv X pz σ H s)(hb:s.heap.objs.size<=b)(hn:H' b=none):cS X pz H' b:=by
 refine⟨hn,Ol (A_ I.lt hb),I.nofs hb,.inr (MI I.sz hb),fun x c e z=>?_,fun p hp z=>?_⟩
 .obtain⟨v,q⟩:=I.cell x c e;exact absurd (A_ q.lt (by rw[z];exact hb)) (MX _)
 .exact absurd (A_ (t_ (I.pin p hp).1) (by rw[z];exact hb)) (MX _)
structure Turn(P:D_)(w:Mu)(K:W.Frag)(tg:Expr)(J:It)(fp:List Addr)(it:Addr)(tn:Nat->Heap->Prop):Prop where
 mem:it∈fp
 obj:∀i h,tn i h->∀b∈fp,∃o,h.get? b=some o/\∀v,o.data≠.cell v
 keep:∀i h h',tn i h->(∀b∈fp,∀o,h.get? b=some o->h'.get? b=some o)->tn i h'
 item:∀(X:Cx),X.prog=P->X.w=w->X.K=K->X.calm=true->∀(i:Nat)(pz:List (Addr×Obj))(s:g_)(σ:St)(H:Hp)(E:b_->g_->Prop),Inv X pz σ H s->(∀b∈fp,cS X pz H b)->tn i s.heap->J.go i H ->z_ (E_ P w) X.A (pyNext (.ref it)) (fun r s1=>∃u,r=some u /\z_ (E_ P w) X.A (O4 tg (.ref it) u) (fun _ s2=>∃x H',Inv X pz σ H' s2/\am x u/\J.yld i H x H'/\tn (i+1) s2.heap/\∀b∈fp,H' b=none) E s1) E s
 done:∀(X:Cx),X.prog=P->X.w=w->X.K=K->X.calm=true->∀(i:Nat)(pz:List (Addr×Obj))(s:g_)(σ:St)(H:Hp)(E:b_->g_->Prop),Inv X pz σ H s->(∀b∈fp,cS X pz H b)->tn i s.heap->J.stop i H ->z_ (E_ P w) X.A (pyNext (.ref it)) (fun r s1=>r=none/\Inv X pz σ H s1) E s
 self:∀(A:Mw)(i:Nat)(s:g_)(Q:b_->g_->Prop)(E:b_->g_->Prop),tn i s.heap->Q (.ref it) s->z_ (E_ P w) A (pyIter (.ref it)) Q E s
abbrev TI:=St->Hp->(It->Hp->Prop)->Prop
def CV(X:Cx)(pz:List (Addr×Obj))(σ:St)(tg:Expr)(R:It->Hp->Prop)(itv:b_)(s2:g_):Prop:=∃(it:Addr)(fp:List Addr)(tn:Nat->Heap->Prop)(J:It)(H':Hp),itv=.ref it/\Inv X pz σ H' s2/\Turn X.prog X.w X.K tg J fp it tn/\tn 0 s2.heap/\(∀b∈fp,cS X pz H' b)/\R J H'
def PI(X:Cx)(tg iter:Expr)(wi:TI):Prop:=∀(pz:List (Addr×Obj))(s:g_)(σ:St)(H:Hp)(R:It->Hp->Prop),Inv X pz σ H s->wi σ H R ->z_ (E_ X.prog X.w) X.A (eval iter X.env) (fun v s1=>z_ (E_ X.prog X.w) X.A (pyIter v) (CV X pz σ tg R) X.xe s1) X.xe s
theorem qw{M:RF}{A:Mw}{E:b_->g_->Prop}{s:g_}{tg:Expr}{it:Addr}{u:b_}{o:Obj}{n:String}{vs:Array b_}{Q:Unit->g_->Prop}(ho:s.heap.get? it=some o)(hc:o.cls=.type n)(hd:o.data=.fields vs)(hn : ["enumerate","zip","dict_itemiterator","dict_reverseitemiterator","odict_iterator","itertools.zip_longest","itertools.pairwise"].contains n=false)(hQ:Q () s):z_ M A (O4 tg (.ref it) u) Q E s:=by
  unfold O4;cases tg <;> first
    |exact r_ hQ
    |(cases u <;> first
        |exact r_ hQ
        | (refine f_ (wpAny_load ho ?_)
           rw[hc,hd];show z_ M A (if (["enumerate","zip","dict_itemiterator","dict_reverseitemiterator","odict_iterator","itertools.zip_longest","itertools.pairwise"].contains n&&vs[0]? == some (PK _))=true then _ else _) Q E s;rw[if_neg (by intro h;rw[hn,R1]at h;cases h)];exact r_ hQ))
def nT(K:W.Frag)(a:Addr):It:=⟨fun i H=>∃xs x,aU K H a xs/\xs[i]? = some x,fun i H x H'=>H'=H/\∀xs,aU K H a xs->xs[i]? = some x,fun i H=>∃xs,aU K H a xs/\xs.length<=i⟩
def wM(K:W.Frag)(a:Addr):It:=⟨fun i H=>∃xs x,bI K H a xs/\xs[i]? = some x,fun i H x H'=>H'=H/\∀xs,bI K H a xs->xs[i]? = some x,fun i H=>∃xs,bI K H a xs/\xs.length<=i⟩
def qi(lo:Int)(n:Nat):It:=⟨fun i _=>i<n,fun i H x H'=>H'=H/\x=.int (lo+i),fun i _=>n<=i⟩
theorem JT{P:D_}{w:Mu}{K:W.Frag}{tg:Expr}(a it:Addr):Turn P w K tg (nT K a) [it] it (fun i h=>h.IsListIter it a i) where
 mem:=by simp
 obj:=fun i h st b hb=>by
  have e:b=it:=by simpa using hb
  subst e;obtain⟨o,e,c,d⟩:=st;exact⟨o,e,fun v z=>by rw[d]at z;cases z⟩
 keep:=fun i h h' st k=>st.at fun o e=>k it (by simp) o e
 item:=by intro X hP hw hK hc i pz s σ H E I hf st hg;subst hP hw hK;obtain⟨xs,x,hq,hx⟩:=hg;obtain⟨its,rv,p,hz⟩:=I.list hq;obtain⟨u,hu,ru⟩:=rv.get hx;obtain⟨f0,f1,f2,f3,f4,f5⟩:=hf it (by simp);refine wpAny_pyNext_list_item st p.isList (x:=u) (by simpa using hu) fun h' st' sb=>?_;have I1:Inv X pz σ H { s with heap:=h' }:=I.turned (t':=s.toks) (fun b o hb e=>(sb.2 b hb).trans e) f0 f1 f3 f4 f5;obtain⟨o,e,c,d⟩:=id st';exact⟨u,rfl,qw (s:={ s with heap:=h' }) e c d (by decide) ⟨x,H,I1,ru,⟨rfl,fun ys hy=>by rw[I.list_inj hy hq];exact hx⟩,st',fun b hb=>(hf b hb).1⟩⟩
 done:=by intro X hP hw hK hc i pz s σ H E I hf st hg;subst hP hw hK;obtain⟨xs,hq,hx⟩:=hg;obtain⟨its,rv,p,hz⟩:=I.list hq;obtain⟨f0,f1,f2,f3,f4,f5⟩:=hf it (by simp);have hl:=rv.length;exact wpAny_pyNext_list_end (I.ok.hd hc) st p.isList (by simp;omega) fun h' eb=>⟨rfl,I.turned (t':=s.toks) (fun b o hb e=>eb b o hb e) f0 f1 f3 f4 f5⟩
 self:=fun _ _ _ _ _ st h=>wpAny_pyIter_listiter st h
theorem KG{P:D_}{w:Mu}{K:W.Frag}{tg:Expr}(a it:Addr):Turn P w K tg (wM K a) [it] it (fun i h=>h.IsTupleIter it a i) where
 mem:=by simp
 obj:=fun i h st b hb=>by
  have e:b=it:=by simpa using hb
  subst e;obtain⟨o,e,c,d⟩:=st;exact⟨o,e,fun v z=>by rw[d]at z;cases z⟩
 keep:=fun i h h' st k=>st.at fun o e=>k it (by simp) o e
 item:=by intro X hP hw hK hc i pz s σ H E I hf st hg;subst hP hw hK;obtain⟨xs,x,hq,hx⟩:=hg;obtain⟨its,rv,p,hz⟩:=I.tuple hq;obtain⟨u,hu,ru⟩:=rv.get hx;obtain⟨f0,f1,f2,f3,f4,f5⟩:=hf it (by simp);refine wpAny_pyNext_tuple_item st (show s.heap.IsTuple a its.toArray from p) (x:=u) (by simpa using hu) fun h' st' sb=>?_;have I1:Inv X pz σ H { s with heap:=h' }:=I.turned (t':=s.toks) (fun b o hb e=>(sb.2 b hb).trans e) f0 f1 f3 f4 f5;obtain⟨o,e,c,d⟩:=id st';exact⟨u,rfl,qw (s:={ s with heap:=h' }) e c d (by decide) ⟨x,H,I1,ru,⟨rfl,fun ys hy=>by rw[I.tuple_inj hy hq];exact hx⟩,st',fun b hb=>(hf b hb).1⟩⟩
 done:=by intro X hP hw hK hc i pz s σ H E I hf st hg;subst hP hw hK;obtain⟨xs,hq,hx⟩:=hg;obtain⟨its,rv,p,hz⟩:=I.tuple hq;obtain⟨f0,f1,f2,f3,f4,f5⟩:=hf it (by simp);have hl:=rv.length;exact wpAny_pyNext_tuple_end (I.ok.hd hc) st (show s.heap.IsTuple a its.toArray from p) (by simp;omega) fun h' eb=>⟨rfl,I.turned (t':=s.toks) (fun b o hb e=>eb b o hb e) f0 f1 f3 f4 f5⟩
 self:=fun _ _ _ _ _ st h=>wpAny_pyIter_tupleiter st h
theorem KF{P:D_}{w:Mu}{K:W.Frag}{tg:Expr}(it:Addr)(lo:Int)(n:Nat):Turn P w K tg (qi lo n) [it] it (fun i h=>IsRangeIter h it (lo+(i:Nat)*1) ((n:Int)-(i:Nat)) 1) where
 mem:=by simp
 obj:=fun i h st b hb=>by
  have e:b=it:=by simpa using hb
  subst e;exact⟨_,st,fun v z=>by have z':Data.fields _=Data.cell v:=z;cases z'⟩
 keep:=fun i h h' st k=>k it (by simp) _ st
 item:=by intro X hP hw hK hc i pz s σ H E I hf st hg;subst hP hw hK;obtain⟨f0,f1,f2,f3,f4,f5⟩:=hf it (by simp);have W:=Walks.range (prog:=X.prog) (w:=X.w) (I.ok.hd hc) it lo 1 n;refine W.item i s _ _ hg st fun v h' tk hv st' kk=>?_;obtain⟨t,rfl⟩:=hv;have I1:Inv X pz σ H { s with heap:=h',toks:=tk }:=I.turned (fun b o hb e=>kk b o (by simpa using hb) e) f0 f1 f3 f4 f5;refine⟨_,rfl,qw (s:={ s with heap:=h',toks:=tk }) (n := "range_iterator") st' rfl rfl (by decide) ⟨.int (lo+i),H,I1,⟨t,?_⟩,⟨rfl,rfl⟩,st',fun b hb=>(hf b hb).1⟩⟩;rw[Int.mul_one]
 done:=by intro X hP hw hK hc i pz s σ H E I hf st hg;subst hP hw hK;obtain⟨f0,f1,f2,f3,f4,f5⟩:=hf it (by simp);exact wpAny_pyNext_range_end (I.ok.hd hc) st (by have:n<=i:=hg;omega) fun h' eb=>⟨rfl,I.turned (t':=s.toks) (fun b o hb e=>eb b o hb e) f0 f1 f3 f4 f5⟩
 self:=fun _ _ _ _ _ st h=>wpAny_pyIter_rangeiter st h
section
variable{X:Cx}{tg:Expr}
theorem Jb{pz:List (Addr×Obj)}{σ:St}{H:Hp}{s:g_}{R:It->Hp->Prop}{E:b_->g_->Prop}{lo hi:Int}{t u v:Tok}{tk:Nat}(I:Inv X pz σ H s)(h1 : -(2^62)<=lo)(h2:lo<2^62)(h3 : -(2^62)<=hi)(h4:hi<2^62)(q:R (qi lo (hi-lo).toNat) H):z_ (E_ X.prog X.w) X.A (pyIter (.ref s.heap.objs.size)) (CV X pz σ tg R) E { s with heap:=s.heap.push { cls:=.type "range",data:=.fields #[.int lo t,.int hi u,.int 1 v] },toks:=tk }:=by
 refine wpAny_pyIter_range (IsRange.new ..) (small_one h1 h2 h3 h4) ?_;have I1:Inv X pz σ H { s with heap:=s.heap.push { cls:=.type "range",data:=.fields #[.int lo t,.int hi u,.int 1 v] },toks:=tk }:=I.kept fun b o e=>m_ _ e;refine⟨(s.heap.push { cls:=.type "range",data:=.fields #[.int lo t,.int hi u,.int 1 v] }).objs.size,[(s.heap.push { cls:=.type "range",data:=.fields #[.int lo t,.int hi u,.int 1 v] }).objs.size],_,_,H,rfl,I1.kept (t':=tk) fun b o e=>m_ _ e,KF _ lo (hi-lo).toNat,?_,fun b hb=>?_,q⟩
 .have e1:lo+((0:Nat):Int)*1=lo:=by simp
  have e2:(((hi-lo).toNat:Nat):Int)-((0:Nat):Int)=PX lo hi 1:=by rw[rangeSize_one];split <;> omega
  show IsRangeIter _ _ (lo+((0:Nat):Int)*1) ((((hi-lo).toNat:Nat):Int)-((0:Nat):Int)) 1;rw[e1,e2];exact B_ _ rfl
 .have e:b=(s.heap.push { cls:=.type "range",data:=.fields #[.int lo t,.int hi u,.int 1 v] }).objs.size:=by simpa using hb
  subst e;exact I1.fpOk (w_ _) (I1.hok.fresh (w_ _))
def C7(ta:TA):TI:=fun σ H R=>ta σ H fun vs H1=>∃j:Int,vs=[.int j]/\-(2^62)<=j/\j<2^62/\R (qi 0 j.toNat) H1
theorem J3{a:Expr}{ta:TA}{p pos:Pos}(hg:Gl X "range")(hm:X.mg "range" = none)(ha:PA X [a] ta)(hs:j_ [a] X.env=[(false,eval a X.env)]:=by rfl):PI X tg (.Call (.Name "range" p) [a] [] pos) (C7 ta):=by intro pz s σ H R I h;refine Call_ (lU I hg hm boot_range (Ob (aG (ha pos pz s σ H _ I h) fun us s1 ⟨vs,H1,I1,r1,q1⟩=>?_) hs rfl));obtain⟨j,e,q1,q2,q⟩:=q1;subst e;cases r1 with
|cons r rr=>cases rr;obtain⟨t,rfl⟩:=r;exact call_range_1 (Jb I1 (by omega) (by omega) q1 q2 (by simpa using q))
def vO(wi:TI)(g:TG)(tb:TS):TS:=fun D σ H=>wi σ H fun J H1=>∃W:Nat->Nat->St->Hp->Prop,(∃m,W 0 m σ H1)/\∀i m σ H,W i m σ H ->(J.stop i H/\D.nx σ H)\/(J.go i H/\∃N:St->Hp->Prop,(∀σ' H',N σ' H'->∃m',m'<m/\W (i+1) m' σ' H')/\∀x H',J.yld i H x H'->g x σ H' fun σ2 H2=>tb { D with nx:=N,ct:=N,bk:=D.nx } σ2 H2)
def lX(fp:List Addr)(h:Heap):List (Addr×Obj):=fp.filterMap fun b=>(h.get? b).map fun o=>(b,o)
theorem pd{fp:List Addr}{h:Heap}{b:Addr}{o:Obj}(hb:b∈fp)(e:h.get? b=some o):(b,o)∈lX fp h:=Na.mpr ⟨b,hb,by rw[e];rfl⟩
theorem JB{fp:List Addr}{h:Heap}{p:Addr×Obj}(hp:p∈lX fp h):p.1∈fp/\h.get? p.1=some p.2:=by obtain⟨b,hb,e⟩:=Na.mp hp;cases q:h.get? b with
|none=>rw[q]at e;cases e
|some o=>rw[q]at e;have e':(b,o)=p:=C_ e;subst e';exact⟨hb,q⟩
theorem Inv.pinned{pz:List (Addr×Obj)}{σ:St}{H:Hp}{s:g_}{fp:List Addr}(I:Inv X pz σ H s)(hf:∀b∈fp,cS X pz H b)(ho:∀b∈fp,∃o,s.heap.get? b=some o/\∀v,o.data≠.cell v):Inv X (pz++lX fp s.heap) σ H s:=I.pins_of fun p hp=>(M9.mp hp).elim (fun z=>I.pin p (Mr _ z)) fun z=>by obtain⟨hb,e⟩:=JB z;obtain⟨f0,f1,f2,_⟩:=hf p.1 hb;obtain⟨o,e',d⟩:=ho p.1 hb;rw[e]at e';cases e';exact⟨e,f0,f1,f2,d⟩
theorem Inv.unpinned{pz pl:List (Addr×Obj)}{σ:St}{H:Hp}{s:g_}(I:Inv X (pz++pl) σ H s):Inv X pz σ H s:=I.pins_of fun p hp=>I.pin p (Mr _ (MQ _ hp))
theorem rf{iter:Expr}{body:List Stmt}{wi:TI}{g:TG}{tb:TS}{pos:Pos}(hp:PV (E_ X.prog X.w) X.A X.env X.xe)(hc:X.calm=true)(hi:PI X tg iter wi)(hg:PG X tg g)(hb:c6 X body tb)(hs:∀x,NE iter X.env x=pure x:=by intro _;rfl):PS X (.For tg iter body [] pos) (vO wi g tb):=by
 intro pz s σ H D I h;refine wpAny_For (aG (hi pz s σ H _ I h) fun v s1 h1=>aG h1 fun itv s2 h2=>?_) hs;obtain⟨it,fp,tn,J,H2,e,I2,T,st2,f2,W,⟨m0,w0⟩,turn⟩:=h2;subst e;have stat:∀{H':Hp},(∀b∈fp,H' b=none)->∀b∈fp,cS X pz H' b:=fun hn b hb=>⟨hn b hb,(f2 b hb).2⟩
 refine codeAny_forLoop_any (fun n s'=>∃i σ' H',Inv X pz σ' H' s'/\tn i s'.heap/\(∀b∈fp,H' b=none)/\W i n σ' H') ?_ m0 ⟨0,σ,H2,I2,st2,fun b hb=>(f2 b hb).1,w0⟩
 rintro n s3 ⟨i,σ3,H3,I3,st3,fr3,w3⟩
 rcases turn i n σ3 H3 w3 with⟨stop,qn⟩|⟨go,N,hN,step⟩
 .refine NB hp (aG (T.done X rfl rfl rfl hc i pz s3 σ3 H3 X.xe I3 (stat fr3) st3 stop) fun r s4 ⟨hr,I4⟩=>?_);subst hr;exact O3 ⟨σ3,H3,I4,qn⟩
 .refine NB hp (aG (T.item X rfl rfl rfl hc i pz s3 σ3 H3 X.xe I3 (stat fr3) st3 go) fun r s4 ⟨u,hr,h4⟩=>?_);subst hr;refine NB hp (aG h4 fun _ s5 ⟨x,H5,I5,r5,y5,st5,fr5⟩=>?_);have I5':=I5.pinned (stat fr5) (T.obj _ _ st5);refine NB hp (aG (hg _ s5 σ3 H5 x u _ I5' r5 (step x H5 y5)) fun _ s6 ⟨σ6,H6,I6,q6⟩=>?_);refine NB hp (aG (hb _ s6 σ6 H6 _ I6 q6) fun f s7 q7=>?_);have again:∀{σ7:St}{H7:Hp},Inv X (pz++lX fp s5.heap) σ7 H7 s7->N σ7 H7->∃m,m<n/\∃i σ' H',Inv X pz σ' H' s7/\tn i s7.heap/\(∀b∈fp,H' b=none)/\W i m σ' H':=fun{σ7 H7} I7 n7=>by obtain⟨m',hm,w7⟩:=hN σ7 H7 n7;refine⟨m',hm,i+1,σ7,H7,I7.unpinned,T.keep _ _ _ st5 fun b hb o e=>(I7.pin (b,o) (Mr _ (Mr _ (pd hb e)))).1,fun b hb=>?_,w7⟩;obtain⟨o,e,d⟩:=T.obj _ _ st5 b hb;exact(I7.pin (b,o) (Mr _ (Mr _ (pd hb e)))).2.1
  cases f with
 |next=>obtain⟨σ7,H7,I7,n7⟩:=q7;exact again I7 n7
 |cont=>obtain⟨σ7,H7,I7,n7⟩:=q7;exact again I7 n7
 |brk=>obtain⟨σ7,H7,I7,q7⟩:=q7;exact⟨σ7,H7,I7.unpinned,q7⟩
 |ret v=>obtain⟨x7,σ7,H7,I7,r7,q7⟩:=q7;exact⟨x7,σ7,H7,I7.unpinned,r7,q7⟩
end
abbrev R2:=V->V->Hp->VK->Prop
def aR(X:Cx)(f:b_->b_->Sem b_)(r:R2):Prop:=∀(pz:List (Addr×Obj))(s:g_)(σ:St)(H:Hp)(x y:V)(v u:b_)(Q:VK),Inv X pz σ H s->am x v->am y u->r x y H Q ->z_ (E_ X.prog X.w) X.A (f v u) (EP X pz σ Q) X.xe s
def wI(X:Cx)(f:b_->Sem b_)(r:V->Hp->VK->Prop):Prop:=∀(pz:List (Addr×Obj))(s:g_)(σ:St)(H:Hp)(x:V)(v:b_)(Q:VK),Inv X pz σ H s->am x v->r x H Q ->z_ (E_ X.prog X.w) X.A (f v) (EP X pz σ Q) X.xe s
def dw(X:Cx)(f:b_)(r:List V->Hp->VK->Prop):Prop:=∀(pz:List (Addr×Obj))(s:g_)(σ:St)(H:Hp)(xs:List V)(us:List b_)(Q:VK),Inv X pz σ H s->ai xs us->r xs H Q ->z_ (E_ X.prog X.w) X.A (call f us) (EP X pz σ Q) X.xe s
def wJ(X:Cx)(r:V->Hp->(Bool->Hp->Prop)->Prop):Prop:=∀(pz:List (Addr×Obj))(s:g_)(σ:St)(H:Hp)(x:V)(v:b_)(Q:Bool->Hp->Prop),Inv X pz σ H s->am x v->r x H Q ->z_ (E_ X.prog X.w) X.A (truthy v) (TP X pz σ Q) X.xe s
def m9(r:R2)(ta tb:TE):TE:=fun σ H Q=>ta σ H fun x H1=>tb σ H1 fun y H2=>r x y H2 Q
def L7(r:V->Hp->VK->Prop)(ta:TE):TE:=fun σ H Q=>ta σ H fun x H1=>r x H1 Q
def rI(C:Int->Int->Prop)(g:Int->Int->V):R2:=fun x y H Q=>∃i j,x=.int i/\y=.int j/\C i j/\Q (g i j) H
def hX(g:Int->Int->V):R2:=fun x y H Q=>∃i j,x=.int i/\y=.int j/\Q (g i j) H
def rU(g:Int->V):V->Hp->VK->Prop:=fun x H Q=>∃i,x=.int i/\Q (g i) H
section
variable{X:Cx}{a b c:Expr}{ta tb tc:TE}{pos:Pos}
theorem ko(ha:PE X a ta)(hb:PE X b tb){pz:List (Addr×Obj)}{s:g_}{σ:St}{H:Hp}{R:V->V->Hp->Prop}(I:Inv X pz σ H s)(h:ta σ H fun x H1=>tb σ H1 fun y H2=>R x y H2){Q:b_->g_->Prop}{f:b_->b_->Sem b_}(hf:∀v u s2 x y H2,Inv X pz σ H2 s2->am x v->am y u->R x y H2->z_ (E_ X.prog X.w) X.A (f v u) Q X.xe s2):z_ (E_ X.prog X.w) X.A (eval a X.env) (fun v s₁=>z_ (E_ X.prog X.w) X.A (eval b X.env) (fun u s₂=>z_ (E_ X.prog X.w) X.A (f v u) Q X.xe s₂) X.xe s₁) X.xe s:=by refine aG (ha pz s σ H _ I h) fun v s1 ⟨x,H1,I1,r1,q1⟩=>?_;refine aG (hb pz s1 σ H1 _ I1 q1) fun u s2 ⟨y,H2,I2,r2,q2⟩=>?_;exact hf v u s2 x y H2 I2 r1 r2 q2
theorem Ea{op:Operator}{r:R2}(ho:aR X (NQ op) r)(ha:PE X a ta)(hb:PE X b tb):PE X (.BinOp a op b pos) (m9 r ta tb):=by intro pz s σ H Q I h;exact wpAny_BinOp (ko ha hb I h fun v u s2 x y H2 I2 rx ry q=>ho pz s2 σ H2 x y v u Q I2 rx ry q)
theorem Ec{op:UnaryOp}{r:V->Hp->VK->Prop}(ho:wI X (unaryOp op) r)(ha:PE X a ta):PE X (.UnaryOp op a pos) (L7 r ta):=by intro pz s σ H Q I h;exact UnaryOp_ (aG (ha pz s σ H _ I h) fun v s1 ⟨x,H1,I1,r1,q1⟩=>ho pz s1 σ H1 x v Q I1 r1 q1)
theorem nB{f:b_->b_->Sem b_}{C:Int->Int->Prop}{g:Int->Int->Int}(rule:∀(i j:Int)(t u:Tok)(s:g_)(Q:b_->g_->Prop)(E:b_->g_->Prop),C i j->Q (.int (g i j) s.toks) { s with toks:=s.toks+1 }->z_ (E_ X.prog X.w) X.A (f (.int i t) (.int j u)) Q E s):aR X f (rI C fun i j=>.int (g i j)):=by intro pz s σ H x y v u Q I rx ry h;obtain⟨i,j,rfl,rfl,hc,q⟩:=h;obtain⟨t,rfl⟩:=rx;obtain⟨t',rfl⟩:=ry;exact rule i j t t' s _ _ hc ⟨.int (g i j),H,I.tok _,⟨_,rfl⟩,q⟩
theorem nA{f:b_->b_->Sem b_}{g:Int->Int->Int}(rule:∀(i j:Int)(t u:Tok)(s:g_)(Q:b_->g_->Prop)(E:b_->g_->Prop),Q (.int (g i j) s.toks) { s with toks:=s.toks+1 }->z_ (E_ X.prog X.w) X.A (f (.int i t) (.int j u)) Q E s):aR X f (hX fun i j=>.int (g i j)):=by intro pz s σ H x y v u Q I rx ry h;obtain⟨i,j,rfl,rfl,q⟩:=h;obtain⟨t,rfl⟩:=rx;obtain⟨t',rfl⟩:=ry;exact rule i j t t' s _ _ ⟨.int (g i j),H,I.tok _,⟨_,rfl⟩,q⟩
theorem kg{f:b_->b_->Sem b_}{g:Int->Int->Bool}(rule:∀(i j:Int)(t u:Tok)(s:g_)(Q:b_->g_->Prop)(E:b_->g_->Prop),Q (.bool (g i j)) s->z_ (E_ X.prog X.w) X.A (f (.int i t) (.int j u)) Q E s):aR X f (hX fun i j=>.bl (g i j)):=by intro pz s σ H x y v u Q I rx ry h;obtain⟨i,j,rfl,rfl,q⟩:=h;obtain⟨t,rfl⟩:=rx;obtain⟨t',rfl⟩:=ry;exact rule i j t t' s _ _ ⟨.bl (g i j),H,I,rfl,q⟩
def gj(i j:Int):Prop:=0<j/\j<1073741824
def gb(i j:Int):Prop:=0<=j/\j<=1000000/\i.natAbs<2^64
def fg(i j:Int):Prop:=(-(2^64)<i/\i<2^64)\/(-(2^64)<j/\j<2^64)
theorem fg.ok{i j:Int}(h:fg i j):IntMulOk i j:=by
 rcases h with⟨h1,h2⟩|⟨h1,h2⟩
 .exact .of_left (intBits_le_64 h1 h2)
 .exact .of_right (intBits_le_64 h1 h2)
theorem yS:aR X (NQ .Add) (hX fun i j=>.int (i+j)):=nA fun _ _ _ _ _ _ _ q=>add_int q
theorem En:aR X (NQ .Sub) (hX fun i j=>.int (i-j)):=nA fun _ _ _ _ _ _ _ q=>sub_int q
theorem Ek:aR X (NQ .Mult) (rI fg fun i j=>.int (i*j)):=nB fun _ _ _ _ _ _ _ hc q=>mul_int q hc.ok
theorem Gc:aR X (NQ .FloorDiv) (rI gj fun i j=>.int (i/j)):=nB fun i j _ _ _ _ _ hc q=>by have h1:(0:Int)<j:=hc.1;have h2:j<1073741824:=hc.2;exact floordiv_int (by omega) (by rw[Pf i (by omega)];exact q) (.inl (PyProof.noPylong_small (by omega)))
theorem Ej:aR X (NQ .Mod) (rI (fun _ j=>0<j) fun i j=>.int (i%j)):=nB fun i j _ _ _ _ _ hc q=>by have h1:(0:Int)<j:=hc;exact mod_int' (by omega) (by rw[Int.fmod_eq_emod_of_nonneg i (by omega)];exact q)
theorem Em:aR X (NQ .Pow) (rI gb fun i j=>.int (i^j.toNat)):=nB fun _ _ _ _ _ _ _ hc q=>pow_int_small hc.1 hc.2.1 hc.2.2 q
theorem L6{f:b_->Sem b_}{g:Int->Int}(rule:∀(i:Int)(t:Tok)(s:g_)(Q:b_->g_->Prop)(E:b_->g_->Prop),Q (.int (g i) s.toks) { s with toks:=s.toks+1 }->z_ (E_ X.prog X.w) X.A (f (.int i t)) Q E s):wI X f (rU fun i=>.int (g i)):=by intro pz s σ H x v Q I rx h;obtain⟨i,rfl,q⟩:=h;obtain⟨t,rfl⟩:=rx;exact rule i t s _ _ ⟨.int (g i),H,I.tok _,⟨_,rfl⟩,q⟩
theorem Fo:wI X (unaryOp .USub) (rU fun i=>.int (-i)):=L6 fun _ _ _ _ _ q=>neg_int q
end
def iE:V->V->Bool
|.non,.non=>true|.non,.int _=>true|.int _,.non=>true|.non,.bl _=>true|.bl _,.non=>true|.non,.str _=>true|.str _,.non=>true
|.int _,.int _=>true|.bl _,.bl _=>true|.str _,.str _=>true|.byt _,.byt _=>true
|.int _,.str _=>true|.str _,.int _=>true|.bl _,.str _=>true|.str _,.bl _=>true
|_,_=>false
def CQ:R2:=fun x y H Q=>iE x y=true/\Q (.bl (decide (x=y))) H
def CP:R2:=fun x y H Q=>iE x y=true/\Q (.bl (! decide (x=y))) H
theorem rn{i j:Int}:decide (V.int i=V.int j)=(i==j):=by rw[Ms];simp
theorem qX{i j:Bool}:decide (V.bl i=V.bl j)=(i==j):=by rw[Ms];simp
theorem rq{i j:Str}:decide (V.str i=V.str j)=(i==j):=by rw[Ms];simp
theorem zF{i j:Array UInt8}:decide (V.byt i=V.byt j)=(i.toList==j.toList):=by rw[Ms];cases i;cases j;simp
section
variable{X:Cx}{a b c:Expr}{ta tb tc:TE}{pos:Pos}
theorem bV{pz:List (Addr×Obj)}{σ:St}{H:Hp}{s:g_}{Q:VK}{k k':Bool}(I:Inv X pz σ H s)(q:Q (.bl k) H)(e:k=k'):EP X pz σ Q (.bool k') s:=by subst e;exact⟨.bl k,H,I,rfl,q⟩
theorem xM:aR X (MC .Eq) CQ:=by intro pz s σ H x y v u Q I rx ry h;obtain⟨hs,q⟩:=h;cases x with
|non=>cases rx;cases y with
 |non=>cases ry;exact Sf (bV I q (by simp))
 |bl j=>cases ry;exact Sg (bV I q (by simp))
 |int j=>obtain⟨t',rfl⟩:=ry;exact Sw (bV I q (by simp))
 |str j=>obtain⟨t',rfl⟩:=ry;exact Sx (bV I q (by simp))
 |_=>exact absurd (show false=true from hs) i_
|bl i=>cases rx;cases y with
 |non=>cases ry;exact Sh (bV I q (by simp))
 |bl j=>cases ry;exact eq_bool (bV I q qX)
 |str j=>obtain⟨t',rfl⟩:=ry;exact Si (bV I q (by simp))
 |_=>exact absurd (show false=true from hs) i_
|int i=>obtain⟨t,rfl⟩:=rx;cases y with
 |non=>cases ry;exact Sy (bV I q (by simp))
 |int j=>obtain⟨t',rfl⟩:=ry;exact eq_int (bV I q rn)
 |str j=>obtain⟨t',rfl⟩:=ry;exact Sz (bV I q (by simp))
 |_=>exact absurd (show false=true from hs) i_
|str i=>obtain⟨t,rfl⟩:=rx;cases y with
 |non=>cases ry;exact SD (bV I q (by simp))
 |bl j=>cases ry;exact Sj (bV I q (by simp))
 |int j=>obtain⟨t',rfl⟩:=ry;exact SF (bV I q (by simp))
 |str j=>obtain⟨t',rfl⟩:=ry;exact eq_str (bV I q rq)
 |_=>exact absurd (show false=true from hs) i_
|byt i=>obtain⟨t,rfl⟩:=rx;cases y with
 |byt j=>obtain⟨t',rfl⟩:=ry;exact W.eq_bytes (bV I q zF)
 |_=>exact absurd (show false=true from hs) i_
|_=>cases y <;> exact absurd (show false=true from hs) i_
theorem Dm:aR X (MC .NotEq) CP:=by intro pz s σ H x y v u Q I rx ry h;obtain⟨hs,q⟩:=h;cases x with
|non=>cases rx;cases y with
 |non=>cases ry;exact Sk (bV I q (by simp))
 |bl j=>cases ry;exact Sl (bV I q (by simp))
 |int j=>obtain⟨t',rfl⟩:=ry;exact SH (bV I q (by simp))
 |str j=>obtain⟨t',rfl⟩:=ry;exact SJ (bV I q (by simp))
 |_=>exact absurd (show false=true from hs) i_
|bl i=>cases rx;cases y with
 |non=>cases ry;exact Sm (bV I q (by simp))
 |bl j=>cases ry;exact ne_bool (bV I q (congrArg not qX))
 |str j=>obtain⟨t',rfl⟩:=ry;exact Sn (bV I q (by simp))
 |_=>exact absurd (show false=true from hs) i_
|int i=>obtain⟨t,rfl⟩:=rx;cases y with
 |non=>cases ry;exact SK (bV I q (by simp))
 |int j=>obtain⟨t',rfl⟩:=ry;exact ne_int (bV I q (congrArg not rn))
 |str j=>obtain⟨t',rfl⟩:=ry;exact SL (bV I q (by simp))
 |_=>exact absurd (show false=true from hs) i_
|str i=>obtain⟨t,rfl⟩:=rx;cases y with
 |non=>cases ry;exact SM (bV I q (by simp))
 |bl j=>cases ry;exact So (bV I q (by simp))
 |int j=>obtain⟨t',rfl⟩:=ry;exact SN (bV I q (by simp))
 |str j=>obtain⟨t',rfl⟩:=ry;exact ne_str (bV I q (congrArg not rq))
 |_=>exact absurd (show false=true from hs) i_
|byt i=>obtain⟨t,rfl⟩:=rx;cases y with
 |byt j=>obtain⟨t',rfl⟩:=ry;exact W.ne_bytes (bV I q (congrArg not zF))
 |_=>exact absurd (show false=true from hs) i_
|_=>cases y <;> exact absurd (show false=true from hs) i_
theorem xG:aR X (MC .Lt) (hX fun i j=>.bl (decide (i<j))):=kg fun _ _ _ _ _ _ _ q=>lt_int q
theorem Dl:aR X (MC .LtE) (hX fun i j=>.bl (decide (i<=j))):=kg fun _ _ _ _ _ _ _ q=>le_int q
theorem xN:aR X (MC .Gt) (hX fun i j=>.bl (decide (j<i))):=kg fun _ _ _ _ _ _ _ q=>gt_int q
theorem Kc:aR X (MC .In) (fun x y H Q=>∃i j,x=.str i/\y=.str j/\Q (.bl (!(Nn j i 0 j.length 1).isEmpty)) H):=by intro pz s σ H x y v u Q I rx ry h;obtain⟨i,j,rfl,rfl,q⟩:=h;obtain⟨t,rfl⟩:=rx;obtain⟨t',rfl⟩:=ry;exact in_str (bV I q rfl)
theorem Ei:aR X (MC .Is) (fun x y H Q=>y=.non/\Q (.bl (decide (x=.non))) H):=by
 intro pz s σ H x y v u Q I rx ry h;obtain⟨rfl,q⟩:=h;cases ry;refine is_none_gen (bV I q ?_);cases x <;> first
  |(cases rx;rfl)
  |(obtain⟨t,rfl⟩:=rx;rfl)
theorem Gf:aR X (MC .IsNot) (fun x y H Q=>y=.non/\Q (.bl (! decide (x=.non))) H):=by
 intro pz s σ H x y v u Q I rx ry h;obtain⟨rfl,q⟩:=h;cases ry;refine isnot_none_gen (bV I q ?_);cases x <;> first
  |(cases rx;rfl)
  |(obtain⟨t,rfl⟩:=rx;rfl)
theorem aR.or{f:b_->b_->Sem b_}{r r':R2}(h:aR X f r)(h':aR X f r'):aR X f (fun x y H Q=>r x y H Q\/r' x y H Q):=by
 intro pz s σ H x y v u Q I rx ry q;rcases q with q|q
 .exact h pz s σ H x y v u Q I rx ry q
 .exact h' pz s σ H x y v u Q I rx ry q
theorem jb(b:Expr){op:S0}(h:op≠.In:=by decide)(h2:op≠.NotIn:=by decide):NJ op b=false:=by
 have e1:(op==CmpOp.In)=false:=by cases op <;> first|rfl|exact absurd rfl h
 have e2:(op==CmpOp.NotIn)=false:=by cases op <;> first|rfl|exact absurd rfl h2
 cases b <;> simp[NJ,e1,e2]
theorem Gh{op:S0}{r:R2}(ho:aR X (MC op) r)(ha:PE X a ta)(hb:PE X b tb)(hm:NJ op b=false):PE X (.Compare a [op] [b] pos) (m9 r ta tb):=by intro pz s σ H Q I h;exact wpAny_Compare1 (ko ha hb I h fun v u s2 x y H2 I2 rx ry q=>ho pz s2 σ H2 x y v u Q I2 rx ry q) hm
def D2(t:TE):TT:=fun σ H Q=>t σ H fun x H'=>∃k,x=.bl k/\Q k H'
theorem Gq{op:S0}{r:R2}(ho:aR X (MC op) r)(ha:PE X a ta)(hb:PE X b tb)(hm:NJ op b=false):PT X (.Compare a [op] [b] pos) (D2 (m9 r ta tb)):=by intro pz s σ H Q I h;refine wpAny_isTrue_Compare1 (aG (ha pz s σ H _ I h) fun v s1 ⟨x,H1,I1,r1,q1⟩=>aG (hb pz s1 σ H1 _ I1 q1) fun u s2 ⟨y,H2,I2,r2,q2⟩=>aG (ho pz s2 σ H2 x y v u _ I2 r1 r2 q2) fun c s3 ⟨z,H3,I3,r3,k,e,q3⟩=>?_) hm;subst e;cases r3;exact ND ⟨H3,I3,q3⟩
def y8(r r':R2)(ta tb tc:TE):TE:=fun σ H Q=>ta σ H fun x H1=>tb σ H1 fun y H2=>r x y H2 fun z H3=>∃k,z=.bl k /\(if k=true then tc σ H3 fun w' H4=>r' y w' H4 Q else Q (.bl false) H3)
theorem IJ{op op':S0}{r r':R2}(ho:aR X (MC op) r)(ho':aR X (MC op') r')(ha:PE X a ta)(hb:PE X b tb)(hc:PE X c tc)(hm:lastMarks [op,op'] [b,c]=false:=by with_unfolding_all rfl):PE X (.Compare a [op,op'] [b,c] pos) (y8 r r' ta tb tc):=by intro pz s σ H Q I h;refine Compare_chain (aG (ha pz s σ H _ I h) fun v s1 ⟨x,H1,I1,r1,q1⟩=>chain_link (aG (hb pz s1 σ H1 _ I1 q1) fun u s2 ⟨y,H2,I2,r2,q2⟩=>aG (ho pz s2 σ H2 x y v u _ I2 r1 r2 q2) fun d s3 ⟨z,H3,I3,r3,k,e,q3⟩=>?_)) hm;subst e;cases r3;refine ND ?_;cases k with
|false=>exact ite_ff ⟨.bl false,H3,I3,rfl,q3⟩
|true=>exact ite_tt (chain_last (aG (hc pz s3 σ H3 _ I3 q3) fun w' s4 ⟨z',H4,I4,r4,q4⟩=>ho' pz s4 σ H4 y z' u w' Q I4 r2 r4 q4))
def kr(K:W.Frag)(x:V)(H:Hp)(k:Bool):Prop:=match x with
|.non=>k=false
|.bl b=>k=b
|.int i=>k=(i != 0)
|.str y=>y.length<=sizeLine/\k=((y.length:Int) != 0)
|.byt y=>y.size<=sizeLine/\k=((y.size:Int) != 0)
|.ref p=>(∃xs,aU K H p xs/\k = ! xs.isEmpty)\/(∃xs,bI K H p xs/\k = ! xs.isEmpty)\/∃kvs,Rd H p (.dK kvs)/\k = ! kvs.isEmpty
|_=>False
theorem KL{κ:Type}{kvs:List (κ×V)}{vs:List (κ×b_)}(r:KV kvs vs):(! vs.isEmpty) = ! kvs.isEmpty:=by cases r <;> rfl
theorem B6{xs:List V}{its:List b_}(r:ai xs its):(! its.toArray.isEmpty) = ! xs.isEmpty:=by cases r <;> simp
theorem kR:(sizeLine:Nat)<2^63:=by rw[MU];decide
theorem Fi:wJ X (fun x H Q=>∃k,kr X.K x H k/\Q k H):=by intro pz s σ H x v Q I rx h;obtain⟨k,e,q⟩:=h;have hl:=kR;have hs:sizeLine=16777216:=MU;cases x with
|non=>cases rx;have e':k=false:=e;subst e';exact truthy_none ⟨H,I,q⟩
|bl b=>cases rx;have e':k=b:=e;subst e';exact ND ⟨H,I,q⟩
|int i=>obtain⟨t,rfl⟩:=rx;have e':k=(i != 0):=e;subst e';exact PySem.P.truthy_int ⟨H,I,q⟩
|str y=>obtain⟨t,rfl⟩:=rx;obtain⟨hy,e'⟩:y.length<=sizeLine/\k=((y.length:Int) != 0):=e;subst e';exact PySem.P.truthy_str (by omega) ⟨H,I.tok _,q⟩
|byt y=>obtain⟨t,rfl⟩:=rx;obtain⟨hy,e'⟩:y.size<=sizeLine/\k=((y.size:Int) != 0):=e;subst e';exact W.truthy_bytes (by omega) ⟨H,I.tok _,q⟩
|ref p=>
  cases rx;have e':(∃xs,aU X.K H p xs/\k = ! xs.isEmpty)\/(∃xs,bI X.K H p xs/\k = ! xs.isEmpty)\/∃kvs,Rd H p (.dK kvs)/\k = ! kvs.isEmpty:=e;rcases e' with⟨xs,hx,e'⟩|⟨xs,hx,e'⟩|⟨kvs,hx,e'⟩
  .subst e';obtain⟨its,r,pl,hz⟩:=I.list hx;have hlen:=r.length;exact wpAny_truthy_list pl.isList (by simp only[s_];omega) ⟨H,I.tok _,by rw[B6 r];exact q⟩
  .subst e';obtain⟨its,r,pl,hz⟩:=I.tuple hx;have hlen:=r.length;exact truthy_tuple pl (by simp only[s_];omega) ⟨H,I.tok _,by rw[B6 r];exact q⟩
  .subst e';obtain⟨hz,hS,vs,r,m⟩:kvs.length<=sizeLine/\(p==NW)=false/\∃vs,KV kvs vs/\s.heap.DictOf (dQ X.prog X.w) p vs:=hx.ok I.hok;have hlen:kvs.length=vs.length:=Paired.length r;exact wpAny_truthy_dict hS m (by omega) ⟨H,I.tok _,by rw[KL r];exact q⟩
|_=>exact(show False from e).elim
theorem IY(ha:PE X a ta)(he:∀whole,isTrue a X.env whole=(do let v <-whole;Tc a.pos;Pv [v] (truthy v))):PT X a (fun σ H Q=>ta σ H fun x H'=>∃k,kr X.K x H' k/\Q k H'):=by intro pz s σ H Q I h;exact isTrue_plain (aG (ha pz s σ H _ I h) fun v s1 ⟨x,H1,I1,r1,q1⟩=>Fi pz s1 σ H1 x v Q I1 r1 q1) (he _)
theorem BO:aR X (NQ .Add) (fun x y H Q=>∃i j,x=.str i/\y=.str j/\i.length+j.length<=sizeLine/\Q (.str (i++j)) H):=by intro pz s σ H x y v u Q I rx ry h;obtain⟨i,j,rfl,rfl,hz,q⟩:=h;obtain⟨t,rfl⟩:=rx;obtain⟨t',rfl⟩:=ry;exact add_str (fun t' tk=>⟨.str (i++j),H,I.tok _,⟨_,rfl⟩,q⟩) hz
theorem fJ{x:V}{us:List b_}(r:ai [x] us):∃u,us=[u]/\am x u:=by cases r with
|cons r1 r2=>cases r2;exact⟨_,rfl,r1⟩
theorem qM{x y:V}{us:List b_}(r:ai [x,y] us):∃u w',us=[u,w']/\am x u/\am y w':=by cases r with
|cons r1 r2=>cases r2 with
 |cons r3 r4=>cases r4;exact⟨_,_,rfl,r1,r3⟩
theorem Ie:dw X (.builtin "abs") (fun xs H Q=>∃i,xs=[.int i]/\Q (.int (if i<0 then-i else i)) H):=by intro pz s σ H xs us Q I r h;obtain⟨i,rfl,q⟩:=h;obtain⟨u,rfl,t,rfl⟩:=fJ r;exact call_abs_int fun u tk=>⟨.int (if i<0 then-i else i),H,I.tok _,⟨_,rfl⟩,q⟩
def nS(K:W.Frag)(x:V)(H:Hp)(n:Nat):Prop:=match x with
|.str y=>y.length<=sizeLine/\n=y.length
|.byt y=>y.size<=sizeLine/\n=y.size
|.ref p=>(∃xs,aU K H p xs/\n=xs.length)\/∃xs,bI K H p xs/\n=xs.length
|_=>False
theorem Ik:dw X (.builtin "len") (fun xs H Q=>∃x n,xs=[x]/\nS X.K x H n/\Q (.int n) H):=by intro pz s σ H xs us Q I r h;obtain⟨x,n,rfl,e,q⟩:=h;obtain⟨u,rfl,rx⟩:=fJ r;have hl:=kR;have hs:sizeLine=16777216:=MU;cases x with
|str y=>obtain⟨t,rfl⟩:=rx;obtain⟨hy,e'⟩:y.length<=sizeLine/\n=y.length:=e;subst e';exact len_str (by omega) ⟨.int _,H,I.tok _,⟨_,rfl⟩,q⟩
|byt y=>obtain⟨t,rfl⟩:=rx;obtain⟨hy,e'⟩:y.size<=sizeLine/\n=y.size:=e;subst e';exact W.len_bytes (by omega) ⟨.int _,H,I.tok _,⟨_,rfl⟩,q⟩
|ref p=>
  cases rx;have e':(∃xs,aU X.K H p xs/\n=xs.length)\/∃xs,bI X.K H p xs/\n=xs.length:=e;rcases e' with⟨xs,hx,e'⟩|⟨xs,hx,e'⟩
  .subst e';obtain⟨its,r',pl,hz⟩:=I.list hx;have hlen:=r'.length;exact Calls.call_len_list pl.isList (by simp only[s_];omega) ⟨.int xs.length,H,I.tok _,⟨_,by simp only[s_];rw[hlen]⟩,q⟩
  .subst e';obtain⟨its,r',pl,hz⟩:=I.tuple hx;have hlen:=r'.length;exact len_tuple pl (by simp only[s_];omega) ⟨.int xs.length,H,I.tok _,⟨_,by simp only[s_];rw[hlen]⟩,q⟩
|_=>exact(show False from e).elim
end
structure ObjM(h:Heap)(x dx C:Addr)(mA:Str->Option b_):Prop where
 obj:h.get? x=some (W.instObj C dx)
 ns:h.Ns1 dx mA
 ne:dx≠x
def putF(f:Str)(v:V):List (Str×V)->List (Str×V)
|[]=>[(f,v)]
|(g,x)::r=>if g=f then(g,v)::r else(g,x)::putF f v r
theorem ck.some_of{v:V}{o:Option b_}(r:ck (some v) o):∃u,o=some u/\am v u:=by cases o with
|none=>exact(show False from r).elim
|some u=>exact⟨u,rfl,r⟩
theorem ck.none_of{o:Option b_}(r:ck none o):o=none:=by cases o with
|none=>rfl
|some u=>exact(show False from r).elim
structure Cls(K:W.Frag)(C:Addr):Prop where
 pg:W.plainGet K C Str.empty=true
 hd:W.hasDictIn K C=true
 po:W.plainOver K C=true
 sa:W.findIn K (.ref C) "__setattr__" = some (some (.builtin "object.__setattr__"))
theorem Cls.get{K:W.Frag}{C:Addr}(c:Cls K C)(f:Str):W.plainGet K C f=true:=c.pg
structure Con(K:W.Frag)(C:Addr)(f:Str)(v:V)(u:b_):Prop where
 at_:W.findIn K (.ref C) f=some (some u)
 rel:am v u
 get:W.specialIn K u "__get__" = some none
 cp:W.copiedNames.contains f=false
structure Meth(K:W.Frag)(C:Addr)(m:Str)(f:Addr):Prop where
 at_:W.findIn K (.ref C) m=some (some (.ref f))
 fn:W.isFn K (.ref f)=true
 kp:W.keepIn K (.ref f)=true
section
variable{X:Cx}{pz:List (Addr×Obj)}{σ:St}{H:Hp}{s:g_}{a C dx:Addr}{fs:List (Str×V)}{f:Str}{v:V}{A:Mw}{E:b_->g_->Prop}
theorem Inv.made(I:Inv X pz σ H s):Inv X pz σ (upd (upd H s.heap.objs.size (.own (s.heap.objs.size+1))) (s.heap.objs.size+1) (.ins C s.heap.objs.size []))
  { s with heap:=(s.heap.push W.emptyDict).push (W.instObj C s.heap.objs.size) }:=by
 have e1:(s.heap.push W.emptyDict).get? s.heap.objs.size=some W.emptyDict:=B_ s.heap rfl;have e2:((s.heap.push W.emptyDict).push (W.instObj C s.heap.objs.size)).get? (s.heap.objs.size+1)=some (W.instObj C s.heap.objs.size):=by have:=B_ (s.heap.push W.emptyDict) (o:=W.instObj C s.heap.objs.size) rfl;rwa[OJ]at this
 have e3:(s.heap.push W.emptyDict).Ns s.heap.objs.size (fun _=>none):=⟨W.emptyDict,#[],_,e1,rfl,(fun e he=>absurd he (by simp)),fun _=>rfl⟩
 have I1:=I.laid (a:=s.heap.objs.size) (o:=.own (s.heap.objs.size+1)) (h':=s.heap.push W.emptyDict) (t':=s.toks) (fun b u q=>m_ _ q) (w_ _) ⟨_,e1⟩;refine I1.laid (a:=s.heap.objs.size+1) (o:=.ins C s.heap.objs.size []) (t':=s.toks) (fun b u q=>m_ _ q) (OK (OJ _ _)) ?_;have ne:s.heap.objs.size≠s.heap.objs.size+1:=Mv (Om _);refine⟨by rw[aZ ne,bT],MD _,ne,e2,fun _=>none,(Heap.Ns1.of_empty e3).at fun o q=>m_ _ q,fun _=>True.intro,fun y hy=>absurd rfl hy⟩
end
section
variable{X:Cx}{pz:List (Addr×Obj)}{σ:St}{H:Hp}{s:g_}{A:Mw}{E:b_->g_->Prop}{Q:b_->g_->Prop}{c:b_}{b:Bool}
inductive TyOf(K:W.Frag)(H:Hp):V->b_->Prop where
 |non:TyOf K H .non (.type "NoneType")
 |bl (x:Bool):TyOf K H (.bl x) (.type "bool")
 |int (i:Int):TyOf K H (.int i) (.type "int")
 |str (x:Str):TyOf K H (.str x) (.type "str")
 |flt (x:UInt64):TyOf K H (.flt x) (.type "float")
 |lst {a:Addr} {xs:List V} (e:H a=some (.lst xs)):TyOf K H (.ref a) (.type "list")
 |frz {a:Addr} {o:Obj} {xs:List V} (e:H a=some (.frz o (.lst xs))):TyOf K H (.ref a) (.type "list")
 |tup {a:Addr} {xs:List V} (e:H a=some (.tup xs)):TyOf K H (.ref a) (.type "tuple")
 |dK {a:Addr} {kvs:List (au×V)} (e:H a=some (.dK kvs)):TyOf K H (.ref a) (.type "dict")
 |dT {a:Addr} {kvs:List (List au×V)} (e:H a=some (.dT kvs)):TyOf K H (.ref a) (.type "dict")
 | ins {a C dx:Addr} {fs:List (Str × V)} (e:H a=some (.ins C dx fs)) (cl:Cls K C) (ha:W.findIn K (.ref C) "__class__" = some (some (.builtin "object.__class__")))
   (hn:W.specialIn K (.builtin "object.__class__") "__get__" = some (some (.builtin "getset_descriptor.__get__"))) (htk:W.takesIn K (.builtin "object.__class__")=some true)
   (hm:W.mroIn K C (.type "object")=some true):TyOf K H (.ref a) (.ref C)
end
structure Room(k:Nat)(A:Mw):Prop where
 hd:A.handled=none
 dp:A.depth+3*k+5<recursionLimit
 un:A.units+16*k+200<NN
 gd:A.guards=some []
theorem Room.mono{j k:Nat}{A:Mw}(r:Room k A)(h:j<=k):Room j A:=⟨r.hd,by have:=r.dp;omega,by have:=r.un;omega,r.gd⟩
theorem Room.deeper{k:Nat}{A:Mw}(r:Room (k+1) A)(env:Env):Room k (A.deeper env):=⟨r.hd,by have:=r.dp;show A.depth+1+3*k+5<_;omega,by have:=r.un;show A.units+3+16*k+200<_;omega,r.gd⟩
theorem Room.in1{k:Nat}{A:Mw}(r:Room (k+1) A):Room k A.in1:=⟨r.hd,by have:=r.dp;show A.depth+3*k+5<_;omega,by have:=r.un;show A.units+1+16*k+200<_;omega,r.gd⟩
theorem KN{A:Mw}{C:Addr}{us:List b_}{kw:List (Str×b_)}:(A.under (.builtin "type.__call__" ⟨.ref C::us,kw⟩)).depth=A.depth+1:=by first|rfl|simp[Qa,Code.weight,Code.isCreation,Td,Code.isCaller,Tq,Rb,guardIds]
theorem Kg{A:Mw}{C:Addr}{us:List b_}{kw:List (Str×b_)}:(A.under (.builtin "type.__call__" ⟨.ref C::us,kw⟩)).units=A.units+1:=by first|rfl|simp[Qa,Code.cUnits,Tq,Rb]
theorem Room.make{k:Nat}{A:Mw}(r:Room (k+1) A)(C:Addr)(us:List b_)(kw:List (Str×b_)):Room k (A.under (.builtin "type.__call__" ⟨.ref C::us,kw⟩)):=⟨r.hd,by have:=r.dp;rw[KN];omega,by have:=r.un;rw[Kg];omega,(by have:=r.gd;first|exact this|(simp[Qa,Td,guardIds];exact this))⟩
theorem Room.depth{k:Nat}{A:Mw}(r:Room k A):A.depth<recursionLimit:=by have:=r.dp;omega
theorem Room.units{k:Nat}{A:Mw}(r:Room k A):A.units+64<NN:=by have:=r.un;omega
def vK:TA:=fun _ H Q=>Q [] H
def DW(ta:TE)(tr:TA):TA:=fun σ H Q=>ta σ H fun x H1=>tr σ H1 fun xs H2=>Q (x::xs) H2
section
variable{X:Cx}{e:Expr}{es:List Expr}{te:TE}{t:TA}{pos:Pos}
theorem je:PA X [] vK:=fun _ _ _ _ H Q I h=>Calls.spliced_nil ⟨[],H,I,.nil,h⟩
theorem gs(ha:PE X e te)(hr:PA X es t)(hs:j_ (e::es) X.env=(false,eval e X.env)::j_ es X.env:=by rfl):PA X (e::es) (DW te t):=by intro pos pz s σ H Q I h;rw[hs];show z_ _ _ (spliced ((false,eval e X.env)::backTo pos (j_ es X.env))) _ _ s;refine Calls.spliced_cons (aG (ha pz s σ H _ I h) fun u s1 ⟨x,H1,I1,r1,q1⟩=>?_);exact aG (hr pos pz s1 σ H1 _ I1 q1) fun us s2 ⟨xs,H2,I2,r2,q2⟩=>⟨x::xs,H2,I2,.cons r1 r2,q2⟩
def vF(t:TA):TE:=fun σ H Q=>t σ H fun xs H1=>xs.length<=sizeLine/\∀p,H1 p=none->Q (.ref p) (upd H1 p (.tup xs))
def vL(t:TA):TE:=fun σ H Q=>t σ H fun xs H1=>xs.length<=sizeLine/\∀p,H1 p=none->Q (.ref p) (upd H1 p (.lst xs))
theorem Ey{x1}(h:PA X es t):PE X (.Tuple es x1 pos) (vF t):=by intro pz s σ H Q I hq;refine wpAny_Tuple_spliced (aG (h pos pz s σ H _ I hq) fun us s1 ⟨xs,H1,I1,r,z,q⟩=>⟨by rw[<-r.length];exact z,?_⟩);have hf:H1 s1.heap.objs.size=none:=I1.hok.fresh (w_ _);refine⟨.ref s1.heap.objs.size,upd H1 s1.heap.objs.size (.tup xs),I1.laid (t':=s1.toks) (fun b u e=>m_ _ e) (w_ _) ?_,rfl,q _ hf⟩;exact⟨z,us,r,⟨_,B_ _ rfl,rfl,_,rfl⟩,_,B_ _ rfl,rfl⟩
theorem Et(h:PA X es t):PE X (.List es pos) (vL t):=by intro pz s σ H Q I hq;refine wpAny_List_spliced (aG (h pos pz s σ H _ I hq) fun us s1 ⟨xs,H1,I1,r,z,q⟩=>⟨by rw[<-r.length];exact z,?_⟩);have hf:H1 s1.heap.objs.size=none:=I1.hok.fresh (w_ _);refine⟨.ref s1.heap.objs.size,upd H1 s1.heap.objs.size (.lst xs),I1.laid (t':=s1.toks) (fun b u e=>m_ _ e) (w_ _) ?_,rfl,q _ hf⟩;exact⟨z,us,0,r,B_ _ rfl⟩
end
abbrev Sp:=List V->Hp->VK->XK->Prop
abbrev fE:=List Env->Hp->g_->XK->b_->g_->Prop
structure Env0(P:D_)(w:Mu)(K:W.Frag)(mg:Str->Option b_)(base:Heap)(A:Mw)(outer:List Env)(s:g_)(H:Hp):Prop where
 frames:A.frames=some outer
 mod:Mod K mg base
 bs:∀b o,base.get? b=some o->s.heap.get? b=some o/\H b=none
 bsz:base.objs.size<=s.heap.objs.size
 funs:s.heap.FunFrames base outer
 frf:∀b∈bQ outer,H b=none
 hok:bU P w H s.heap
 bare:OW s.gens
def CE(outer:List Env)(P:D_)(w:Mu)(H:Hp)(s:g_)(Q:VK)(u:b_)(s':g_):Prop:=∃v H',s'.os=s.os/\OW s'.gens/\Un (bQ outer) [] H H' s.heap s'.heap/\bU P w H' s'.heap/\am v u/\Q v H'
def CR(CX:fE)(outer:List Env)(P:D_)(w:Mu)(H:Hp)(s:g_)(Q:VK)(E:XK)(r:Te)(s':g_):Prop:=match r with
|.ok (.ret u)=>CE outer P w H s Q u s'
|.ok _=>False
|.error e=>CX outer H s E e s'
structure FnOk(P:D_)(w:Mu)(K:W.Frag)(mg:Str->Option b_)(base:Heap)(CX:fE)(k:Nat)(f:Addr)(fd:M5)(ps:List Str)(sp:Sp):Prop where
 len:∀vs H Q E,sp vs H Q E->vs.length=ps.length
 run:∀(A:Mw)(outer:List Env)(s:g_)(H:Hp)(args:Args)(us:List b_)(vs:List V)(Q:VK)(E:XK),Room k A->Env0 P w K mg base A outer s H->QO s fd args (ps.zip us)->ai vs us->sp vs H Q E ->Qb (E_ P w) A (.call (.ref f) args) (CR CX outer P w H s Q E) s
theorem FnOk.mono{P:D_}{w:Mu}{K:W.Frag}{mg:Str->Option b_}{base:Heap}{CX:fE}{j k:Nat}{f:Addr}{fd:M5}{ps:List Str}{sp:Sp}(F:FnOk P w K mg base CX j f fd ps sp)(h:j<=k):FnOk P w K mg base CX k f fd ps sp:=⟨F.len,fun A outer s H args us vs Q E hr=>F.run A outer s H args us vs Q E (hr.mono h)⟩
theorem FnOk.imp{P:D_}{w:Mu}{K:W.Frag}{mg:Str->Option b_}{base:Heap}{CX:fE}{k:Nat}{f:Addr}{fd:M5}{ps:List Str}{sp sp':Sp}(F:FnOk P w K mg base CX k f fd ps sp)(h:∀vs H Q E,sp' vs H Q E->sp vs H Q E):FnOk P w K mg base CX k f fd ps sp':=⟨fun vs H Q E q=>F.len vs H Q E (h _ _ _ _ q),fun A outer s H args us vs Q E hr he hb hv hs=>F.run A outer s H args us vs Q E hr he hb hv (h _ _ _ _ hs)⟩
theorem Env0.make{P:D_}{w:Mu}{K:W.Frag}{mg:Str->Option b_}{base:Heap}{A:Mw}{outer:List Env}{s:g_}{H:Hp}(e:Env0 P w K mg base A outer s H)(C:Addr)(us:List b_)(kw:List (Str×b_)):Env0 P w K mg base (A.under (.builtin "type.__call__" ⟨.ref C::us,kw⟩)) outer s H:=⟨by first|exact e.frames|(simpa[Qa,Code.envs,Rb,pushEnvs]using e.frames),e.mod,e.bs,e.bsz,e.funs,e.frf,e.hok,e.bare⟩
theorem Env0.in1{P:D_}{w:Mu}{K:W.Frag}{mg:Str->Option b_}{base:Heap}{A:Mw}{outer:List Env}{s:g_}{H:Hp}(e:Env0 P w K mg base A outer s H):Env0 P w K mg base A.in1 outer s H:=⟨e.frames,e.mod,e.bs,e.bsz,e.funs,e.frf,e.hok,e.bare⟩
section
variable{X:Cx}{pz:List (Addr×Obj)}{σ:St}{H:Hp}{s s':g_}
theorem Inv.env0(I:Inv X pz σ H s):Env0 X.prog X.w X.K X.mg X.base X.A X.stack s H:=⟨I.ok.frames,I.ok.mod,I.bs,MI I.ok.bsz I.sz,I.stack,I.stkFree,I.hok,I.bare⟩
theorem Inv.after{Q:VK}{u:b_}(I:Inv X pz σ H s)(h:CE X.stack X.prog X.w H s Q u s'):EP X pz σ Q u s':=by obtain⟨v,H',os,bare,un,hok,r,q⟩:=h;obtain⟨hh,g,d,t,os'⟩:=s';obtain rfl:os'=s.os:=os;exact⟨v,H',I.call (h':=hh) (g':=g) (d':=d) (t':=t) (ch:=[]) un hok bare (fun b z=>absurd z (by simp)),r,q⟩
end
def DV(sp:Sp)(dvs:List V)(E:XK)(t:TA):TE:=fun σ H Q=>t σ H fun vs H1=>sp (vs++dvs) H1 Q E
def fq(K:W.Frag)(fd:M5)(ps:List Str)(ds:List b_):Prop:=∀(s:g_)(us:List b_),K.In s.heap->(us++ds).length=ps.length->QO s fd ⟨us,[]⟩ (ps.zip (us++ds))
theorem fq.all{K:W.Frag}{fd:M5}{ps:List Str}(h:∀us:List b_,us.length=ps.length->Pg fd ⟨us,[]⟩=pure (ps.zip us)):fq K fd ps []:=fun s us _ hl=>by rw[ML]at hl ⊢;exact .of_eq (h us hl)
def qQ(CX:fE)(X:Cx)(E:XK):Prop:=∀(pz:List (Addr×Obj))(σ:St)(H:Hp)(s:g_)(e:b_)(s':g_),Inv X pz σ H s->CX X.stack H s E e s'->X.xe e s'
section
variable{X:Cx}{CX:fE}{k:Nat}{f C:Addr}{fd:M5}{ps:List Str}{sp:Sp}{dvs:List V}{ds:List b_}{E:XK}{x m:Str}{p pos apos:Pos}{e o:Expr}{es:List Expr}{ta:TE}{t:TA}
theorem FG{pz:List (Addr×Obj)}{σ:St}{H:Hp}{s:g_}{Q:VK}{us:List b_}{vs:List V}(F:FnOk X.prog X.w X.K X.mg X.base CX k f fd ps sp)(hr:Room k X.A)(hb:fq X.K fd ps ds)(hd:ai dvs ds)(hx:qQ CX X E)(I:Inv X pz σ H s)(r:ai vs us)(h:sp (vs++dvs) H Q E):z_ (E_ X.prog X.w) X.A (call (.ref f) us) (EP X pz σ Q) X.xe s:=by
 have r2:ai (vs++dvs) (us++ds):=r.append hd;have hl:(us++ds).length=ps.length:=by rw[<-r2.length];exact F.len _ _ _ _ h
 refine QX (Qc (F.run X.A X.stack s H ⟨us,[]⟩ (us++ds) (vs++dvs) Q E hr I.env0 (hb s us I.kIn hl) r2 h) fun r s' hq=>?_);cases r with
|error e=>exact hx pz σ H s e s' I hq
|ok fl=>cases fl with
 |ret u=>exact I.after hq
 |next=>exact MY hq
 |brk=>exact MY hq
 |cont=>exact MY hq
theorem z7(F:FnOk X.prog X.w X.K X.mg X.base CX k f fd ps sp)(hr:Room k X.A)(hg:Gl X x)(hm:X.mg x=some (.ref f))(hk:W.keepIn X.K (.ref f)=true)(hb:fq X.K fd ps ds)(hd:ai dvs ds)(hx:qQ CX X E)(ha:PA X (e::es) t)(hdb:(x==("__debug__" : Str))=false:=by decide)(he:j_ (e::es) X.env=(false,eval e X.env)::j_ es X.env:=by rfl)(hpl:(backTo pos (j_ es X.env)).any (·.1)=false:=by rfl):PE X (.Call (.Name x p) (e::es) [] pos) (DV sp dvs E t):=by intro pz s σ H Q I h;refine NY (l7 I hg hm ?_ hdb);refine W.callWith_K (h₀:=X.base) I.ok.mod.kin hk (aG (ha pos pz s σ H _ I h) fun us s1 ⟨vs,H1,I1,r,q⟩=>⟨I1.kIn,?_⟩) he hpl;exact FG F hr hb hd hx I1 r q
structure Mk(K:W.Frag)(C f:Addr):Prop where
 makes:W.makesIn K C=true
 init:W.findIn K (.ref C) "__init__" = some (some (.ref f))
 fn:W.isFn K (.ref f)=true
 kp:W.keepIn K (.ref C)=true
end
section
variable{X:Cx}{CX:fE}{k:Nat}{f C:Addr}{fd:M5}{ps ks:List Str}{sp:Sp}{E:XK}{x m:Str}{p pos apos kpos:Pos}{e o:Expr}{es:List Expr}{kws:List OX}{te ta:TE}{t tk:TA}{nm:Option Str}
structure KBinds(K:W.Frag)(fd:M5)(ps ks:List Str)(g:List b_->List b_->List b_)(gV:List V->List V->List V):Prop where
 to:∀(s:g_)(us ws:List b_),K.In s.heap->(g us ws).length=ps.length->QO s fd ⟨us,ks.zip ws⟩ (ps.zip (g us ws))
 rel:∀{vs:List V}{us:List b_}{zs:List V}{ws:List b_},ai vs us->ai zs ws->ai (gV vs zs) (g us ws)
variable{g:List b_->List b_->List b_}{gV:List V->List V->List V}
end
structure FnScope(N P:List Str)(sc:Oe):Prop where
 kind:sc.kind=.function
 co:sc.isCoroutine=false
 gen:sc.isGenerator=false
 nd:N.Nodup
 pre:N.take P.length=P
 par:∀x∈P,sc.names.lookup x=some .local\/sc.names.lookup x=some .cell
 nofree:∀y∈sc.names,y.2≠.free
theorem Bk{kindOf:Str->Option Of}{x:Str}:∀{binds:List (Str×b_)}{m:Str->Option b_},(∀v,(x,v)∉binds)->R3 kindOf binds m x=m x
|[],_,_=>rfl
|(n,v)::r,m,h=>by
  unfold R3;rw[Bk fun w hw=>h w (c_ _ hw)];split
  .have:x≠n:=by rintro rfl;exact h v e_
   simp[this]
  .rfl
theorem Bi{kindOf:Str->Option Of}{x:Str}:∀{binds:List (Str×b_)}{m:Str->Option b_},(∀v,(x,v)∉binds)->R4 kindOf binds m x=m x
|[],_,_=>rfl
|(n,v)::r,m,h=>by
  unfold R4;rw[Bi fun w hw=>h w (c_ _ hw)];split
  .rfl
  .have:x≠n:=by rintro rfl;exact h v e_
   simp[this]
theorem Bj{kindOf:Str->Option Of}{x:Str}{v:b_}:∀{P:List Str}{vs:List b_}{i:Nat}{m:Str->Option b_},P.Nodup->P[i]? = some x->vs[i]? = some v->kindOf x=some .local ->R3 kindOf (P.zip vs) m x=some v
|[],_,_,_,_,h,_,_=>by simp at h
|_::_,[],_,_,_,_,h,_=>by simp at h
|p::P,w::vs,0,m,nd,h1,h2,hk=>by simp at h1 h2;subst h1;subst h2;show R3 kindOf ((p,w)::P.zip vs) m p=_;unfold R3;rw[Bk fun v hv=>(H_.mp nd).1 (Qs hv).1,if_pos hk];simp
|p::P,w::vs,i+1,m,nd,h1,h2,hk=>by show R3 kindOf ((p,w)::P.zip vs) m x=_;unfold R3;exact Bj (i:=i) (H_.mp nd).2 (by simpa using h1) (by simpa using h2) hk
theorem Bh{kindOf:Str->Option Of}{x:Str}{v:b_}:∀{P:List Str}{vs:List b_}{i:Nat}{m:Str->Option b_},P.Nodup->P[i]? = some x->vs[i]? = some v->kindOf x≠some .local ->R4 kindOf (P.zip vs) m x=some v
|[],_,_,_,_,h,_,_=>by simp at h
|_::_,[],_,_,_,_,h,_=>by simp at h
|p::P,w::vs,0,m,nd,h1,h2,hk=>by simp at h1 h2;subst h1;subst h2;show R4 kindOf ((p,w)::P.zip vs) m p=_;unfold R4;rw[Bi fun v hv=>(H_.mp nd).1 (Qs hv).1,if_neg hk];simp
|p::P,w::vs,i+1,m,nd,h1,h2,hk=>by show R4 kindOf ((p,w)::P.zip vs) m x=_;unfold R4;exact Bh (i:=i) (H_.mp nd).2 (by simpa using h1) (by simpa using h2) hk
def a7(N:List Str)(vs:List V):St:=vs.map some++MF (N.length-vs.length) none
def aQ(CX:fE)(P:D_)(w:Mu)(K:W.Frag)(mg:Str->Option b_)(base:Heap)(N:List Str)(qual:Str)(scope:Oe)(f:Addr)(cd:b_)(A:Mw)(outer:List Env)(s:g_)(H:Hp)(E:XK):Cx where
 prog:=P
 w:=w
 K:=K
 mg:=mg
 base:=base
 A:=A.deeper (Ot qual scope s.heap.objs.size f cd)
 N:=N
 s₀:=s
 H₀:=H
 env:=Ot qual scope s.heap.objs.size f cd
 outer:=outer
 stack:=Ot qual scope s.heap.objs.size f cd::outer
 ex:=[]
 calm:=true
 fn:=fun _=>true
 pn:=[]
 xe:=fun e s'=>z_ (E_ P w) (A.deeper (Ot qual scope s.heap.objs.size f cd)) (leaving (Ot qual scope s.heap.objs.size f cd) e) (fun _ s''=>CX outer H s E e s'') (fun e' s''=>CX outer H s E e' s'') s'
theorem Au{sc:Oe}{n:Nat}{x:Str}(h:sc.names.lookup x=some .cell):∃c,(S1 n sc.names []).lookup x=some c:=by have q:=W.cellsFrom_some sc.names n [] (.inl h);exact Option.isSome_iff_exists.mp q
theorem Js{CX:fE}{P:D_}{w:Mu}{K:W.Frag}{mg:Str->Option b_}{base:Heap}{N ps:List Str}{qual:Str}{scope:Oe}{f:Addr}{cd:b_}{A:Mw}{outer:List Env}{s s1:g_}{H:Hp}{E:XK}{us:List b_}{vs:List V}(S:FnScope N ps scope)(hd:A.handled=none)(e0:Env0 P w K mg base A outer s H)(hl:vs.length=ps.length)(r:ai vs us)(x:InCallC s s.heap.objs.size (R3 (Ot qual scope s.heap.objs.size f cd).kindOf (ps.zip us) fun _=>none) (S1 (s.heap.objs.size+1) scope.names []) (R4 (Ot qual scope s.heap.objs.size f cd).kindOf (ps.zip us) fun _=>none) s1):Inv (aQ CX P w K mg base N qual scope f cd A outer s H E) [] (a7 N vs) H s1:=by
 have hpl:ps.length<=N.length:=by have:=congrArg Pw S.pre;rw[Nm]at this;omega
 obtain⟨h1,tk,rfl,hk⟩:=x.done;have noA:∀b:Addr,b∉(aQ CX P w K mg base N qual scope f cd A outer s H E).ex:=fun b z=>absurd (show b∈([]:List Addr)from z) (by simp);refine⟨⟨e0.mod,S.kind,rfl,rfl,w_ _,fun y z c h1 h2=>?_,fun y hy=>?_,fun y c _ h=>?_,fun _=>hd,Around.frames_deeper e0.frames,.inr ⟨rfl,rfl⟩,fun b z=>absurd z (noA b),e0.bs,e0.bsz,fun b _ _=>noA b,fun b z=>absurd z (noA b),e0.funs,e0.frf⟩,rfl,e0.bare,Un.kept hk,⟨_,x.toInCall.ns,fun i y v h1 h2 h3=>?_⟩,fun y c h=>⟨_,x.cell y c h⟩,e0.hok.fresh (w_ _),fun y c h=>?_,fun p hp=>absurd (show p∈([]:List (Addr×Obj))from hp) (by simp),e0.hok.kept hk,?_⟩
 .exact name_of_addr x.apart (Ni h1) (Ni h2)
 .have hy:scope.names.lookup y=some .cell\/scope.names.lookup y=some .free:=hy;rcases hy with hy|hy
  .exact Au hy
  .exact absurd rfl (S.nofree _ (Ni hy))
 .exact Q9 (x.above y c (Ni h))
 .have hi:i<vs.length:=by
   unfold a7 at h2;by_cases hi:i<vs.length
   .exact hi
   .rw[Og (by simpa using hi)]at h2;rw[Nb]at h2;split at h2 <;> cases h2
  have ha:vs[i]? = some v:=by unfold a7 at h2;rw[MK (by simpa using hi),x_]at h2;cases e:vs[i]? with
  |none=>rw[e]at h2;cases h2
  |some a=>rw[e]at h2;cases h2;rfl
  obtain⟨u,hu,rv⟩:=r.get ha;have hp:ps[i]? = some y:=by rw[<-S.pre,List.getElem?_take_of_lt (by omega)];exact h1
  have ndP:ps.Nodup:=by rw[<-S.pre];exact S.nd.sublist (Rc _ _)
  refine⟨u,rv,?_⟩;rcases S.par y (QC hp)with k|k
  .exact .inl ⟨k,Bj ndP hp hu k⟩
  .obtain⟨c,e⟩:=Au (n:=s.heap.objs.size+1) k;refine .inr ⟨.inl k,c,e,?_⟩;have q:=x.cell y c e;rw[Bh ndP hp hu (by show scope.names.lookup y≠_;rw[k];decide)]at q;exact q
 .exact e0.hok.fresh (Q9 (x.above y c (Ni h)))
 .unfold a7;show _=N.length;rw[MO,l_,Nv];omega
theorem qv{CX:fE}{P:D_}{w:Mu}{K:W.Frag}{mg:Str->Option b_}{base:Heap}{k:Nat}{f:Addr}{name qual:Str}{params:Arguments}{body:List Stmt}{scope:Oe}{dV kV doc pm cdv ct oc:b_}{an od:Option Addr}{osl:Array (Option b_)}{N ps:List Str}{sp:Sp}(lk:K.lookup f=some ⟨oc,od,.func (W.fnOf name qual params body scope dV kV doc pm an cdv ct),osl⟩)(hcd:W.codeIn K cdv qual=true)(S:FnScope N ps scope)(len:∀vs H Q E,sp vs H Q E->vs.length=ps.length)(hbody:∀(A:Mw)(outer:List Env)(s:g_)(H:Hp)(vs:List V)(Q:VK)(E:XK),Room k (A.deeper (Ot qual scope s.heap.objs.size f cdv))->sp vs H Q E ->∃t,c6 (aQ CX P w K mg base N qual scope f cdv A outer s H E) body t/\t { nx:=fun _ H'=>Q .non H',rt:=Q } (a7 N vs) H):FnOk P w K mg base CX (k+1) f (W.fnOf name qual params body scope dV kV doc pm an cdv ct) ps sp:=by
 refine⟨len,fun A outer s H args us vs Q E hr e0 hb r hsp=>?_⟩;have hl:=len _ _ _ _ hsp;have KX:K.In s.heap:=e0.mod.kin.keeps fun b o e=>(e0.bs b o e).1;have lim:s.heap.NoLimit:=e0.mod.nolimit.keeps fun b o e=>(e0.bs b o e).1;have hkind:∀y∈ps.zip us,scope.names.lookup y.1=some .local\/(scope.names.lookup y.1=some .cell/\((S1 (s.heap.objs.size+1) scope.names []).lookup y.1).isSome=true):=fun⟨n,v⟩ hy=>by
  rcases S.par n (Qs hy).1 with q|q
  .exact .inl q
  .exact .inr ⟨q,W.cellsFrom_some _ _ _ (.inl q)⟩
 refine codeAny_call_function hr.depth (KX _ _ lk) rfl S.co S.gen rfl (W.codeRec_of KX hcd) (hb _ _ _ _ ?_);refine wpAny_newFunctionEnv_cells S.kind hkind fun env he s1 x=>?_;subst he;refine⟨lim.keeps x.toInCall.keep,codeAny_func ?_⟩;obtain⟨t,ht,hq⟩:=hbody A outer s H vs Q E (hr.deeper _) hsp;have I:Inv (aQ CX P w K mg base N qual scope f cdv A outer s H E) [] (a7 N vs) H s1:=Js S hr.hd e0 hl r x;refine MS (ht [] s1 (a7 N vs) H _ I hq) (fun fl s' hs=>?_) fun e s' hs=>hs;have fin:∀{σ':St}{H':Hp}{v:V}{u:b_},Inv (aQ CX P w K mg base N qual scope f cdv A outer s H E) [] σ' H' s'->am v u->Q v H'->CE outer P w H s Q u s':=fun{σ' H' v u} J rv q=>⟨v,H',J.os,J.bare,J.base,J.hok,rv,q⟩
 cases fl with
|ret u=>obtain⟨v,σ',H',J,rv,q⟩:=hs;exact fin J rv q
|next=>obtain⟨σ',H',J,q⟩:=hs;exact fin (v:=V.non) (u:=Value.none) J rfl q
|brk=>obtain⟨_,_,_,q⟩:=hs;exact MY q
|cont=>obtain⟨_,_,_,q⟩:=hs;exact MY q
section
variable{X:Cx}{x:Str}{p pos:Pos}{e:Expr}{es:List Expr}{t:TA}{id T:String}{r:List V->Hp->VK->Prop}
def qf(r:List V->Hp->VK->Prop)(t:TA):TE:=fun σ H Q=>t σ H fun vs H1=>r vs H1 Q
theorem k4(hc:dw X (.builtin id) r)(hg:Gl X x)(hm:X.mg x=none)(hv:NX x=some (.builtin id))(ha:PA X (e::es) t)(hn:x≠"__name__" := by decide)(hdb:(x==("__debug__" : Str))=false:=by decide)(he:j_ (e::es) X.env=(false,eval e X.env)::j_ es X.env:=by rfl)(hpl:(backTo pos (j_ es X.env)).any (·.1)=false:=by rfl):PE X (.Call (.Name x p) (e::es) [] pos) (qf r t):=by intro pz s σ H Q I h;refine NY (lU I hg hm hv ?_ hn hdb);exact Rv (aG (ha pos pz s σ H _ I h) fun us s1 ⟨vs,H1,I1,r1,q1⟩=>hc pz s1 σ H1 vs us Q I1 r1 q1) he hpl
theorem mI(hc:dw X (.type T) r)(hg:Gl X x)(hm:X.mg x=none)(hv:NX x=some (.type T))(ha:PA X (e::es) t)(hn:x≠"__name__" := by decide)(hdb:(x==("__debug__" : Str))=false:=by decide)(he:j_ (e::es) X.env=(false,eval e X.env)::j_ es X.env:=by rfl)(hpl:(backTo pos (j_ es X.env)).any (·.1)=false:=by rfl):PE X (.Call (.Name x p) (e::es) [] pos) (qf r t):=by intro pz s σ H Q I h;refine NY (lU I hg hm hv ?_ hn hdb);exact Ob (aG (ha pos pz s σ H _ I h) fun us s1 ⟨vs,H1,I1,r1,q1⟩=>hc pz s1 σ H1 vs us Q I1 r1 q1) he hpl
end
end L2
namespace HT
open PySem PyProof.Rows
def br:List Int->List Int->Bool
|[],[]=>false
|[],_::_=>true
|_::_,[]=>false
|x::xs,y::ys=>if x=y then br xs ys else decide (x<y)
theorem cW(x y:Int)(xs ys:List Int):br (x::xs) (y::ys)=if x=y then br xs ys else decide (x<y):=rfl
theorem Li:br [] []=false:=rfl
theorem LM(y:Int)(ys:List Int):br [] (y::ys)=true:=rfl
theorem LK(x:Int)(xs:List Int):br (x::xs) []=false:=rfl
theorem HG(A:Mw)(s:g_)(a:Int)(t:Tok)(c:Int)(u:Tok):∃e,QY A s (.int a t) (.int c u) e/\(e=true↔a=c):=⟨(a==c),Ph a t c u,by simp⟩
theorem Jc(A:Mw)(s:g_)(a:Int)(t:Tok)(c:Int)(u:Tok)(prog:D_)(w:Mu)(E:b_->g_->Prop)(Q:b_->g_->Prop)(h:Q (.bool (decide (a<c))) s):z_ (E_ prog w) A (richCompare .Lt (.int a t) (.int c u)) Q E s:=(PyProof.Rows.lt_int h:z_ (E_ prog w) A (MC .Lt (.int a t) (.int c u)) Q E s)
section
open PySem.SeqAt
open PySem.AutoSeq1 (wpAny_loadPart')
open PySem.MeetsSeq PySem.MeetsSeq2 PySem.MeetsSeq3
theorem Lo(l b:Addr)(items items2:Array b_)(n n2:Nat)(dd dd2:Option Addr)(sl sl2:Array (Option b_))(ns ms:List Int)(hi:On items.toList ns)(hj:On items2.toList ms) :
  Meets (Oy.«tuple.__lt__» ⟨[.ref l,.ref b],[]⟩)
   (fun _ R s=>s.heap.get? l=some { cls:=.type "tuple",dict:=dd,data:=.seq items n,slots:=sl }/\s.heap.get? b=some { cls:=.type "tuple",dict:=dd2,data:=.seq items2 n2,slots:=sl2 } /\R (.ok (.ret (.bool (br ns ms)))) s):=
 .of_wp fun prog w A R s h=>by
  obtain⟨hp,g,d,tk,os⟩:=s;obtain⟨hl,hb,h⟩:=h;have f2:=AutoSeq1.sub_tuple_tuple;have z1:items.size=ns.length:=by rw[<-hi.length];simp
  have z2:items2.size=ms.length:=by rw[<-hj.length];simp
  wp_walk using N5 hl,N5 hb,wpAny_forIn_list _ (fun rest b s'=>b.1=none/\s'=⟨hp,g,d,tk,os⟩/\∃(vs ws:List b_)(ns' ms':List Int),rest=vs.zip ws /\On vs ns'/\On ws ms'/\ns'.length+items2.size=ms'.length+items.size/\R (.ok (.ret (.bool (br ns' ms')))) ⟨hp,g,d,tk,os⟩) _
  case turn=>
   rintro⟨y,x⟩ rest b s' ⟨hb',rfl,vs,ws,ns',ms',hz,hvi,hwi,hlen,hR⟩
   cases hvi with
  |nil=>rw[List.zip_nil_left]at hz;cases hz
  |cons a t hvi'=>cases hwi with
   |nil=>rw[List.zip_nil_right]at hz;cases hz
   |cons c u hwi'=>
     rw[QZ]at hz;injection hz with hyx hrest
     injection hyx with hy hx
     subst hy hx;rw[cW]at hR;simp only[MM]at hlen;obtain⟨e,he,hiff⟩:=HG A.in1 ⟨hp,g,d,tk,os⟩ a t c u;refine f_ (he prog w _ _ ?_);cases e with
    |true=>
      rw[if_pos (hiff.mp rfl)]at hR
      wp_walk
      exact⟨rfl,rfl,_,_,_,_,hrest,hvi',hwi',by omega,hR⟩
    |false=>
      rw[if_neg (fun q=>absurd (hiff.mpr q) i_)]at hR;have hri:=Jc A.in1 ⟨hp,g,d,tk,os⟩ a t c u prog w
      wp_walk using hri
      exact⟨_,rfl,by simpa using hR⟩
  case fin=>
   rintro⟨b1,b2⟩ s' ⟨hb',rfl,vs,ws,ns',ms',hz,hvi,hwi,hlen,hR⟩
   simp only at hb';subst hb';have hv:br ns' ms'=decide (items.size<items2.size):=by cases hvi with
   |nil=>cases hwi with
    |nil=>simp only[O5]at hlen;rw[Li];exact(decide_eq_false (by omega)).symm
    |cons c u hw=>simp only[O5,MM]at hlen;rw[LM];exact(decide_eq_true (by omega)).symm
   |cons a t hv=>cases hwi with
    |nil=>simp only[O5,MM]at hlen;rw[LK];exact(decide_eq_false (by omega)).symm
    |cons c u hw=>rw[QZ]at hz;cases hz
   rw[hv]at hR
   wp_walk
   exact⟨_,rfl,by simpa[Rt]using hR⟩
  case h=>exact⟨rfl,rfl,items.toList,items2.toList,ns,ms,rfl,hi,hj,by omega,h⟩
end
section
variable{prog:D_}{w:Mu}{A:Mw}{E:b_->g_->Prop}{s:g_}
theorem eV{l b:Addr}{items items2:Array b_}{ns ms:List Int}{Q:b_->g_->Prop}(hl:Q7 s.heap l items)(hb:Q7 s.heap b items2)(hi:On items.toList ns)(hj:On items2.toList ms)(hu:A.units<NN)(h:Q (.bool (br ns ms)) s):z_ (E_ prog w) A (MC .Lt (.ref l) (.ref b)) Q E s:=by
 obtain⟨⟨cls,dd,data,sl⟩,ho,hc,n,hd⟩:=id hl;obtain⟨⟨cls2,dd2,data2,sl2⟩,ho2,hc2,n2,hd2⟩:=id hb;simp only at hc hd hc2 hd2;subst hc hd hc2 hd2;exact richCompare_meets_room (op:=.Lt) ⟨_,ho,rfl⟩ ⟨_,ho2,rfl⟩ PySem.F.slot_tuple_lt PySem.F.entry_tuple_lt (PySem.F.args_tuple_lt_2 _ _) (Lo l b items items2 n n2 dd dd2 sl sl2 ns ms hi hj)
  ⟨ho,ho2,show Value.bool (br ns ms)≠Value.notImplemented/\Q (.bool (br ns ms)) s from⟨(fun x=>nomatch x),h⟩⟩ hu
theorem iL{t b:Addr}{vs ws:List b_}{Q:b_->g_->Prop}(ht:Q7 s.heap t vs.toArray)(hb:Q7 s.heap b ws.toArray)(hv:vs≠[])(h1:ws=[]->Q (.ref t) s)(h2:ws≠[]->Q (.ref s.heap.objs.size) { s with heap:=s.heap.push { cls:=.type "tuple",data:=.seq (vs++ws).toArray } })(hsz:vs.length+ws.length<=sizeLine):z_ (E_ prog w) A (NQ .Add (.ref t) (.ref b)) Q E s:=by
 obtain⟨⟨cls,dd,data,sl⟩,ho,hc,n,hd⟩:=id ht;obtain⟨⟨cls2,dd2,data2,sl2⟩,ho2,hc2,n2,hd2⟩:=id hb;simp only at hc hd hc2 hd2;subst hc hd hc2 hd2;have e:vs.toArray++ws.toArray=(vs++ws).toArray:=by simp
 by_cases hw:ws=[]
 .exact Qd ⟨_,ho,rfl⟩ ⟨_,ho2,rfl⟩ PY QS OL OG (Ow _ _)
   (tuple_addW1 t b vs.toArray ws.toArray n n2 dd dd2 sl sl2 (by simpa using hv) (by simp[hw])) ⟨ho,ho2,h1 hw⟩
 .refine Qd ⟨_,ho,rfl⟩ ⟨_,ho2,rfl⟩ PY QS OL OG (Ow _ _)
   (tuple_addW2 t b vs.toArray ws.toArray n n2 dd dd2 sl sl2 (by simpa using hv) (by simpa using hw) (by rw[s_,s_];exact hsz)) ⟨ho,ho2,?_⟩
  rw[e];exact h2 hw
def sIx(n d:Nat):Option Int->Nat
|none=>d
|some v=>if v<0 then(v+(n:Int)).toNat else min v.toNat n
theorem cV(n d:Nat):sIx n d none=d:=rfl
theorem dB(n d k:Nat):sIx n d (some (k:Int))=min k n:=by show(if (k:Int)<0 then((k:Int)+(n:Int)).toNat else min (k:Int).toNat n)=min k n;rw[if_neg (by omega),NF]
theorem FJ(n d:Nat)(hd:d<=n)(o:Option Int):sIx n d o<=n:=by cases o with
|none=>exact hd
|some v=>
  show(if v<0 then(v+(n:Int)).toNat else min v.toNat n)<=n;by_cases hv:v<0
  .rw[if_pos hv];omega
  .rw[if_neg hv];exact Nat.min_le_right _ _
theorem zQ(v:Int)(n d:Nat):(if v<0 then max (v+(n:Int)) 0 else min v (n:Int))=((sIx n d (some v):Nat):Int):=by
 show(if v<0 then max (v+(n:Int)) 0 else min v (n:Int))=(((if v<0 then(v+(n:Int)).toNat else min v.toNat n):Nat):Int)
 by_cases hv:v<0
 .simp only[if_pos hv];omega
 .simp only[if_neg hv];omega
theorem JX(lo hi:Option Int)(n:Nat):Os lo hi 1 (n:Int)=(((sIx n 0 lo:Nat):Int),((sIx n n hi:Nat):Int)):=by
 have h1:¬ ((1:Int)<0):=by omega
 unfold Os;simp only[h1,if_false];refine Prod.ext ?_ ?_
 .cases lo with
 |none=>rfl
 |some v=>exact zQ v n 0
 .cases hi with
 |none=>rfl
 |some v=>exact zQ v n n
theorem Kn(i j:Nat):Nx (i:Int) (j:Int) 1=j-i:=by
 unfold Nx;have h1:(1:Int)>0:=by omega
 simp only[h1,if_true,Int.ediv_one];split <;> omega
theorem BR{v:b_}{o:Option Int}{Q:Option Int->g_->Prop}(p:Qe v o)(h:Q o s):z_ (E_ prog w) A (RL v) Q E s:=by cases p with
|none=>exact slicePart_none h
|int i t=>exact slicePart_int h
theorem bn{sl:Addr}{vl vu:b_}{lo hi:Option Int}{n:Nat}{Q:Int×Int×Nat->g_->Prop}(hs:s.heap.IsSliceOf sl vl vu .none)(pl:Qe vl lo)(pu:Qe vu hi)(h:Q (((sIx n 0 lo:Nat):Int),1,sIx n n hi-sIx n 0 lo) s):z_ (E_ prog w) A (Pi (.ref sl) (pure (n:Int))) Q E s:=by obtain⟨os,hos,hcs,hds⟩:=id hs;unfold Pi Sq;refine f_ (f_ (M0 hos hds (x:=vl) rfl (f_ (M0 hos hds (x:=vu) rfl (f_ (M0 hos hds (x:=.none) rfl (r_ ?_)))))));refine f_ (slicePart_none ?_);show z_ _ _ (if ((1:Int)==0)=true then _ else _) _ _ s;rw[if_neg (by decide)];refine f_ (BR pl (f_ (BR pu (f_ (r_ ?_)))));show z_ _ _ (match Os lo hi 1 (n:Int)with|(lo,hi)=>pure (lo,(1:Int),Nx lo hi 1)) _ _ s;rw[JX lo hi n];show z_ _ _ (pure (((sIx n 0 lo:Nat):Int),(1:Int),Nx ((sIx n 0 lo:Nat):Int) ((sIx n n hi:Nat):Int) 1)) _ _ s;rw[Kn];exact r_ h
theorem IP(xs:Array b_)(i k:Nat):((a_ k).filterMap fun(m:Nat)=>xs[((i:Int)+(m:Int)*1).toNat]?).toArray=((xs.toList.drop i).take k).toArray:=by
 have e:(fun(m:Nat)=>xs[((i:Int)+(m:Int)*1).toNat]?)=fun m=>xs[i+m]?:=by
  funext m;have:((i:Int)+(m:Int)*1).toNat=i+m:=by omega
  rw[this]
 rw[e];have:=pick_run xs i k;rw[List.filterMap_map]at this;have e2:((fun x=>xs[x]?)∘fun x=>i+x)=fun m=>xs[i+m]?:=rfl;rw[e2]at this;rw[this]
theorem cg{t sl:Addr}{items:Array b_}{vl vu:b_}{lo hi:Option Int}{Q:b_->g_->Prop}(ht:Q7 s.heap t items)(hs:s.heap.IsSliceOf sl vl vu .none)(pl:Qe vl lo)(pu:Qe vu hi)(hw:¬ (sIx items.size 0 lo=0/\sIx items.size items.size hi=items.size))(h:Q (.ref s.heap.objs.size) { s with heap:=s.heap.push { cls:=.type "tuple",data:=.seq ((items.toList.drop (sIx items.size 0 lo)).take (sIx items.size items.size hi-sIx items.size 0 lo)).toArray } })(hsz:items.size<=sizeLine):z_ (E_ prog w) A (Qf (.ref t) (.ref sl)) Q E s:=by
 have htake:sizeOk (.seq ((items.toList.drop (sIx items.size 0 lo)).take (sIx items.size items.size hi-sIx items.size 0 lo)).toArray):=by show((items.toList.drop (sIx items.size 0 lo)).take (sIx items.size items.size hi-sIx items.size 0 lo)).toArray.size<=sizeLine;rw[s_,Nm,OS,NP];omega
 have hj:sIx items.size items.size hi<=items.size:=FJ _ _ (w_ _) hi;obtain⟨os,hos,hcs,hds⟩:=id hs;have hTs:s.TypeIs (.ref sl) "slice" := ⟨os,hos,hcs⟩
 unfold Qf
 try with_reducible refine Nc ?_
 first|refine f_ (r_ ?_)|skip
 refine f_ (Re ht.typeIs (by decide) ?_);refine f_ (NR (name:=F_ "__getitem__") ht.typeIs MJ
  (Oo MJ ht.typeIs entry_tuple_getitem ?_ (args_tuple_getitem _ _)))
 show z_ _ _ (Pj (.ref t) >>= _) _ _ s;refine f_ (tupleItemsOf_ ht ?_);refine f_ (Rf hTs ?_);rw[if_pos (by decide)];refine f_ (bn hs pl pu ?_);have hno:¬ ((((sIx items.size 0 lo:Nat):Int)==0&&(1:Int)==1&&(sIx items.size items.size hi-sIx items.size 0 lo)==items.size)=true):=by intro q;rw[I_,I_]at q;have q1:((sIx items.size 0 lo:Nat):Int)=0:=No q.1.1;have q2:sIx items.size items.size hi-sIx items.size 0 lo=items.size:=No q.2;exact hw ⟨by omega,by omega⟩
 show z_ _ _ (if (((sIx items.size 0 lo:Nat):Int)==0&&(1:Int)==1&&(sIx items.size items.size hi-sIx items.size 0 lo)==items.size)=true then _ else _) _ _ s;rw[if_neg hno,IP]
 first
  |exact f_ (m:=NK _) (Nd (r_ ⟨_,rfl,r_ h⟩) htake)
  |exact f_ (m:=NK _) (Nd (f_ (r_ (r_ ⟨_,rfl,r_ h⟩))) htake)
  |exact f_ (f_ (m:=NK _) (Nd (r_ (r_ ⟨_,rfl,r_ h⟩)) htake))
  |exact f_ (f_ (m:=NK _) (Nd (r_ ⟨_,rfl,r_ h⟩) htake))
end
end HT
namespace L2
open PySem PySem.Spec PyProof.Rows
abbrev TO:=St->Hp->(Option Int->Hp->Prop)->Prop
def PO(X:Cx)(e:Option Expr)(t:TO):Prop:=∀(pz:List (Addr×Obj))(s:g_)(σ:St)(H:Hp)(Q:Option Int->Hp->Prop),Inv X pz σ H s->t σ H Q ->z_ (E_ X.prog X.w) X.A (evalPart e X.env) (fun u s'=>∃o H',Inv X pz σ H' s'/\Qe u o/\Q o H') X.xe s
def Hi:TO:=fun _ H Q=>Q none H
def D1(t:TE):TO:=fun σ H Q=>t σ H fun x H1=>∃i,x=.int i/\Q (some i) H1
theorem KJ{ns:List Int}:∀{us:List b_},ai (ns.map V.int) us->On us ns:=by induction ns with
|nil=>intro us r;rw[Qg]at r;cases r;exact .nil
|cons n ns ih=>intro us r;rw[G_]at r;cases r with
 |cons r1 r2=>obtain⟨t,e⟩:=r1;subst e;exact .cons n t (ih r2)
section
variable{X:Cx}{e:Expr}{te:TE}{lo hi:Option Expr}{tl th:TO}{pos p2:Pos}
theorem Gn:PO X none Hi:=by intro pz s σ H Q I h;rw[evalPart_none];exact r_ ⟨none,H,I,.none,h⟩
theorem Go(h:PE X e te):PO X (some e) (D1 te):=by intro pz s σ H Q I hw;rw[evalPart_some];refine aG (h pz s σ H _ I hw) fun u s1 ⟨x,H1,I1,r1,q1⟩=>?_;obtain⟨i,rfl,q⟩:=q1;obtain⟨t,rfl⟩:=r1;exact⟨some i,H1,I1,.int i t,q⟩
def gW(X:Cx)(r:V->Option Int->Option Int->Hp->VK->Prop):Prop:=∀(pz:List (Addr×Obj))(s:g_)(σ:St)(H:Hp)(x:V)(v vl vu:b_)(lo hi:Option Int)(sl:Addr)(Q:VK),Inv X pz σ H s->am x v->s.heap.IsSliceOf sl vl vu .none->Qe vl lo->Qe vu hi->r x lo hi H Q ->∃T id,typeLookup (.type T) "__getitem__" = pure (some (.builtin id))/\s.TypeIs v T/\z_ (E_ X.prog X.w) X.A (Qf v (.ref sl)) (EP X pz σ Q) X.xe s
theorem gW.or{r r':V->Option Int->Option Int->Hp->VK->Prop}(h:gW X r)(h':gW X r'):gW X (fun x lo hi H Q=>r x lo hi H Q\/r' x lo hi H Q):=by
 intro pz s σ H x v vl vu lo hi sl Q I rx hs pl pu q;rcases q with q|q
 .exact h pz s σ H x v vl vu lo hi sl Q I rx hs pl pu q
 .exact h' pz s σ H x v vl vu lo hi sl Q I rx hs pl pu q
def L8(r:V->Option Int->Option Int->Hp->VK->Prop)(te:TE)(tl th:TO):TE:=fun σ H Q=>te σ H fun x H1=>tl σ H1 fun l H2=>th σ H2 fun u H3=>r x l u H3 Q
theorem A2{r:V->Option Int->Option Int->Hp->VK->Prop}(hr:gW X r)(he:PE X e te)(hl:PO X lo tl)(hu:PO X hi th):PE X (.Subscript e (.Slice lo hi none p2) pos) (L8 r te tl th):=by intro pz s σ H Q I h;refine Subscript_ (aG (he pz s σ H _ I h) fun v s1 ⟨x,H1,I1,r1,q1⟩=>?_);refine wpAny_Slice (aG (hl pz s1 σ H1 _ I1 q1) fun vl s2 ⟨l,H2,I2,pl,q2⟩=>aG (hu pz s2 σ H2 _ I2 q2) fun vu s3 ⟨u,H3,I3,pu,q3⟩=>?_);rw[evalPart_none];refine r_ ?_;have I4:Inv X pz σ H3 { s3 with heap:=s3.heap.push { cls:=.type "slice",data:=.fields #[vl,vu,.none] } }:=I3.kept (t':=s3.toks) fun b ob q=>m_ _ q;obtain⟨T,id,hT,ht,hg⟩:=hr pz { s3 with heap:=s3.heap.push { cls:=.type "slice",data:=.fields #[vl,vu,.none] } } σ H3 x v vl vu l u s3.heap.objs.size Q I4 r1 (Heap.IsSliceOf.new ..) pl pu q3;show z_ (E_ X.prog X.w) X.A (subscriptTail e (.Slice lo hi none p2) v (.ref s3.heap.objs.size)) (EP X pz σ Q) X.xe { s3 with heap:=s3.heap.push { cls:=.type "slice",data:=.fields #[vl,vu,.none] } };exact tail_any (ops:=[.ref s3.heap.objs.size,v]) ht hT hg (by with_unfolding_all rfl)
def fW(xs:List V)(lo hi:Option Int):List V:=(xs.drop (HT.sIx xs.length 0 lo)).take (HT.sIx xs.length xs.length hi-HT.sIx xs.length 0 lo)
theorem BI(xs:List V)(lo hi:Option Int):(fW xs lo hi).length<=xs.length:=by unfold fW;rw[Nm,OS];omega
def vU(K:W.Frag):V->Option Int->Option Int->Hp->VK->Prop:=fun x lo hi H Q=>∃a xs,x=.ref a/\bI K H a xs /\¬ (HT.sIx xs.length 0 lo=0/\HT.sIx xs.length xs.length hi=xs.length)/\∀p,H p=none->Q (.ref p) (upd H p (.tup (fW xs lo hi)))
theorem y6:gW X (vU X.K):=by
 intro pz s σ H x v vl vu lo hi sl Q I rx hs pl pu h;obtain⟨a,xs,rfl,hx,hw,q⟩:=h;cases rx;obtain⟨its,r,ht,hz⟩:=I.tuple hx;have hlen:its.toArray.size=xs.length:=by rw[s_];exact r.length.symm
 refine⟨"tuple",_,MJ.lookup,ht.typeIs,?_⟩;refine HT.cg ht hs pl pu (by rw[hlen];exact hw) ?_ (by rw[hlen];exact hz);rw[hlen];refine⟨.ref s.heap.objs.size,_,I.laid (t':=s.toks) (o:=.tup (fW xs lo hi)) (fun b ob q=>m_ _ q) (w_ _) ?_,rfl,q _ (I.hok.fresh (w_ _))⟩;exact⟨MI (BI xs lo hi) hz,_,(r.drop (HT.sIx xs.length 0 lo)).take (HT.sIx xs.length xs.length hi-HT.sIx xs.length 0 lo),S2 _ _,_,B_ _ rfl,rfl⟩
def qq(K:W.Frag):R2:=fun x y H Q=>∃a b xs ys,x=.ref a/\y=.ref b/\bI K H a xs/\bI K H b ys/\xs≠[]/\xs.length+ys.length<=sizeLine /\(ys=[]->Q (.ref a) H)/\(ys≠[]->∀p,H p=none->Q (.ref p) (upd H p (.tup (xs++ys))))
theorem ai.nil_iff{xs:List V}{us:List b_}(r:ai xs us):us=[]↔xs=[]:=by cases r with
|nil=>simp
|cons _ _=>simp
theorem zB:aR X (NQ .Add) (qq X.K):=by intro pz s σ H x y v u Q I rx ry h;obtain⟨a,b,xs,ys,rfl,rfl,ha,hb,hx,hz,q1,q2⟩:=h;cases rx;cases ry;obtain⟨its,r1,p1,_⟩:=I.tuple ha;obtain⟨its2,r2,p2,_⟩:=I.tuple hb;refine HT.iL p1 p2 (fun z=>hx (r1.nil_iff.mp z)) (fun z=>⟨.ref a,H,I,rfl,q1 (r2.nil_iff.mp z)⟩) (fun z=>?_) (by rw[<-r1.length,<-r2.length];exact hz);refine⟨.ref s.heap.objs.size,_,I.laid (t':=s.toks) (o:=.tup (xs++ys)) (fun b ob q=>m_ _ q) (w_ _) ?_,rfl,q2 (fun w=>z (r2.nil_iff.mpr w)) _ (I.hok.fresh (w_ _))⟩;exact⟨by rw[MO];exact hz,_,r1.append r2,S2 _ _,_,B_ _ rfl,rfl⟩
end
def fV(n:Nat)(i:Int):Option Nat:=if 0<=i then(if i<n then some i.toNat else none)else if-(n:Int)<=i then some (i+n).toNat else none
def eh{α:Type}(xs:List α)(i:Int):Option α:=(fV xs.length i).bind fun j=>xs[j]?
theorem zu{n:Nat}{i:Int}{j:Nat}(h:fV n i=some j):seqIndex? i n=some j/\j<n/\-(n:Int)<=i/\i<n:=by
 unfold fV at h;by_cases h0:0<=i
 .rw[if_pos h0]at h;by_cases h1:i<n
  .rw[if_pos h1]at h;have e:i.toNat=j:=C_ h;exact⟨by rw[RH h0 h1,e],by omega,by omega,h1⟩
  .rw[if_neg h1]at h;cases h
 .rw[if_neg h0]at h;by_cases h1 : -(n:Int)<=i
  .rw[if_pos h1]at h;have e:(i+n).toNat=j:=C_ h;exact⟨by rw[seqIndex_neg (by omega) h1,e],by omega,h1,by omega⟩
  .rw[if_neg h1]at h;cases h
theorem rM{α:Type}{xs:List α}{i:Int}{v:α}(h:eh xs i=some v):∃j,seqIndex? i xs.length=some j/\xs[j]? = some v/\j<xs.length/\-(xs.length:Int)<=i/\i<xs.length:=by unfold eh at h;cases e:fV xs.length i with
|none=>rw[e]at h;cases h
|some j=>rw[e]at h;obtain⟨h1,h2,h3,h4⟩:=zu e;exact⟨j,h1,h,h2,h3,h4⟩
def rL(b:Expr):Prop:=∀o i,subscripted b false o i=operate [o,i] (Qf o i)
def g0(X:Cx)(r:R2):Prop:=∀(value slice:Expr)(pz:List (Addr×Obj))(s:g_)(σ:St)(H:Hp)(x y:V)(v u:b_)(Q:VK),Inv X pz σ H s->am x v->am y u->r x y H Q ->subscripted slice false v u=operate [v,u] (Qf v u)->z_ (E_ X.prog X.w) X.A (subscriptTail value slice v u) (EP X pz σ Q) X.xe s
def f8(X:Cx)(id:String)(r:V->List V->Hp->VK->Prop):Prop:=∀(pz:List (Addr×Obj))(s:g_)(σ:St)(H:Hp)(x:V)(xs:List V)(v:b_)(us:List b_)(Q:VK),Inv X pz σ H s->am x v->ai xs us->r x xs H Q ->z_ (E_ X.prog X.w) X.A (call (.builtin id) (v::us)) (EP X pz σ Q) X.xe s
section
variable{X:Cx}{a b:Expr}{ta tb:TE}{pos:Pos}
theorem g0.or{r r':R2}(h:g0 X r)(h':g0 X r'):g0 X (fun x y H Q=>r x y H Q\/r' x y H Q):=by
 intro value slice pz s σ H x y v u Q I rx ry q hs;rcases q with q|q
 .exact h value slice pz s σ H x y v u Q I rx ry q hs
 .exact h' value slice pz s σ H x y v u Q I rx ry q hs
theorem f8.or{id:String}{r r':V->List V->Hp->VK->Prop}(h:f8 X id r)(h':f8 X id r'):f8 X id (fun x xs H Q=>r x xs H Q\/r' x xs H Q):=by
 intro pz s σ H x xs v us Q I rx rs q;rcases q with q|q
 .exact h pz s σ H x xs v us Q I rx rs q
 .exact h' pz s σ H x xs v us Q I rx rs q
theorem D9{r:R2}(hr:g0 X r)(ha:PE X a ta)(hb:PE X b tb)(hs:rL b):PE X (.Subscript a b pos) (m9 r ta tb):=by intro pz s σ H Q I h;exact Subscript_ (ko ha hb I h fun v u s2 x y H2 I2 rx ry q=>hr a b pz s2 σ H2 x y v u Q I2 rx ry q (hs _ _))
def nj(K:W.Frag):R2:=fun x y H Q=>∃p xs i v,x=.ref p/\y=.int i/\aU K H p xs/\eh xs i=some v/\Q v H
def nh(K:W.Frag):R2:=fun x y H Q=>∃p xs i v,x=.ref p/\y=.int i/\bI K H p xs/\eh xs i=some v/\Q v H
def ni:R2:=fun x y H Q=>∃z i c,x=.str z/\y=.int i/\z.length<=sizeLine/\eh z.cps.toList i=some c/\Q (.str ⟨#[c]⟩) H
theorem Gx:g0 X (nj X.K):=by
 intro value slice pz s σ H x y v u Q I rx ry h hs;obtain⟨p,xs,i,z,rfl,rfl,hq,he,q⟩:=h;cases rx;obtain⟨t,rfl⟩:=ry;obtain⟨its,r,pl,hz⟩:=I.list hq;obtain⟨j,h1,h2,h3,h4,h5⟩:=rM he;obtain⟨w,ew,rw'⟩:=r.get h2;have hl:=r.length;have hn:=kR;have fin:EP X pz σ Q w s:=⟨z,H,I,rw',q⟩
 by_cases h0:0<=i
 .have hj:i.toNat=j:=by rw[RH h0 h5]at h1;exact C_ h1
  exact item_listR pl.isList h0 (by omega) (by rw[hj];simpa using ew) fin hs
 .have hj:(i+(its.toArray.size:Int)).toNat=j:=by rw[seqIndex_neg (by omega) h4]at h1;rw[s_,<-hl];exact C_ h1
  exact Qh (x:=w) pl.isList.typeIs Rh.lookup
   (wpAny_getItem_list_neg (Q:=fun r s'=>r=w/\EP X pz σ Q r s') pl.isList (by omega) (by rw[s_] <;> omega) (by omega) (by rw[hj];simpa using ew) ⟨rfl,fin⟩) hs
theorem EH:g0 X (nh X.K):=by
 intro value slice pz s σ H x y v u Q I rx ry h hs;obtain⟨p,xs,i,z,rfl,rfl,hq,he,q⟩:=h;cases rx;obtain⟨t,rfl⟩:=ry;obtain⟨its,r,pl,hz⟩:=I.tuple hq;obtain⟨j,h1,h2,h3,h4,h5⟩:=rM he;obtain⟨w,ew,rw'⟩:=r.get h2;have hl:=r.length;have hn:=kR;have fin:EP X pz σ Q w s:=⟨z,H,I,rw',q⟩
 exact Qh (x:=w) pl.typeIs MJ.lookup
  (getItem_tuple (j:=j) (Q:=fun r s'=>r=w/\EP X pz σ Q r s') pl (by omega) (by omega) (by rw[s_,<-hl];exact h1) (by simpa using ew) ⟨rfl,fin⟩) hs
theorem EG:g0 X ni:=by
 intro value slice pz s σ H x y v u Q I rx ry h hs;obtain⟨z,i,c,rfl,rfl,hz,he,q⟩:=h;obtain⟨t,rfl⟩:=rx;obtain⟨t',rfl⟩:=ry;obtain⟨j,h1,h2,h3,h4,h5⟩:=rM he;have hl:z.cps.toList.length=z.length:=by simp[Str.length]
 rw[hl]at h1 h4 h5;have hn:=kR;exact tail_any (typeIs_str s z t) slot_str_getitem.lookup (getItem_str (c:=c) (by have e1:decide (i < -(2^63:Int))=false:=decide_eq_false (by omega);have e2:decide (i>=2^63)=false:=decide_eq_false (by omega);rw[e1,e2,Bool.or_false]) (by rw[h1];simpa using h2) ⟨.str ⟨#[c]⟩,H,I.tok _,⟨_,rfl⟩,q⟩) hs
def vW(K:W.Frag):R2:=fun x y H Q=>nj K x y H Q\/nh K x y H Q\/ni x y H Q
theorem Fc:g0 X (vW X.K):=Gx.or (EH.or EG)
theorem Kh(its:List b_)(n j:Nat)(u:b_):NZ (·.setIfInBounds j u) { cls:=.type "list",data:=.seq its.toArray n }={ cls:=.type "list",data:=.seq (its.set j u).toArray n }:=by simp[NZ]
theorem Inv.lst{pz:List (Addr×Obj)}{σ:St}{H:Hp}{s:g_}{p:Addr}{xs:List V}(I:Inv X pz σ H s)(h:H p=some (.lst xs)):∃(its:List b_)(n:Nat),ai xs its/\s.heap.get? p=some { cls:=.type "list",data:=.seq its.toArray n }/\xs.length<=sizeLine:=by obtain⟨z,its,n,r,e⟩:=I.hok p _ h;exact⟨its,n,r,e,z⟩
theorem Inv.lstUpd{pz:List (Addr×Obj)}{σ:St}{H:Hp}{s:g_}{p:Addr}{xs ys:List V}{its its':List b_}{n n':Nat}{f:Obj->Obj}(I:Inv X pz σ H s)(h:H p=some (.lst xs))(ho:s.heap.get? p=some { cls:=.type "list",data:=.seq its.toArray n })(hf:f { cls:=.type "list",data:=.seq its.toArray n }={ cls:=.type "list",data:=.seq its'.toArray n' })(r:ai ys its')(hz:ys.length<=sizeLine)(t:Nat):Inv X pz σ (upd H p (.lst ys)) { s with heap:=s.heap.update p f,toks:=t }:=by
 have e:(s.heap.update p f).get? p=some { cls:=.type "list",data:=.seq its'.toArray n' }:=by rw[M4 f ho (by rw[hf] <;> rfl),hf]
 refine I.write (x:=p) (e:=p) (by rw[h];trivial) (.inl rfl) (fun b u hb q=>(Qi _ _ (NO hb)).trans q) ⟨_,e⟩ ?_;exact⟨hz,its',n',r,e⟩
def yC:V->V->V->Hp->(Hp->Prop)->Prop:=fun o i v H Q=>∃p xs k j,o=.ref p/\i=.int k/\H p=some (.lst xs)/\fV xs.length k=some j/\Q (upd H p (.lst (xs.set j v)))
theorem Iu:d5 X yC:=by
 intro pz s σ H o i v ov iv u Q I ro ri rv h;obtain⟨p,xs,k,j,rfl,rfl,hp,hj,q⟩:=h;cases ro;obtain⟨t,rfl⟩:=ri;obtain⟨its,n,r,ho,hz⟩:=I.lst hp;obtain⟨h1,h2,h3,h4⟩:=zu hj;have hl:=r.length;have hn:=kR;have I':Inv X pz σ (upd H p (.lst (xs.set j v))) { s with heap:=s.heap.update p (NZ (·.setIfInBounds j u)) }:=I.lstUpd hp ho (Kh its n j u) (r.set rv j) (by rw[NC];exact hz) s.toks;by_cases h0:0<=k
 .have hk:k.toNat=j:=by rw[RH h0 h4]at h1;exact C_ h1
  exact W.ki_setAt ho h0 (by omega) (by rw[s_,<-hl];exact h4) (by rw[hk];exact⟨_,I',q⟩)
 .have hk:(k+(its.toArray.size:Int)).toNat=j:=by rw[seqIndex_neg (by omega) h3]at h1;rw[s_,<-hl];exact C_ h1
  exact W.ki_setBack ho (by omega) (by rw[s_,<-hl];exact h3) (by omega) (by rw[hk];exact⟨_,I',q⟩)
theorem Lr(lo hi:Option Int)(n:Nat):(OH lo hi none n).1=((HT.sIx n 0 lo:Nat):Int)/\(OH lo hi none n).2.1=((HT.sIx n n hi:Nat):Int)/\(OH lo hi none n).2.2=1:=by
 refine⟨?_,?_,rfl⟩
 .cases lo with
 |none=>simp[OH,HT.sIx]
 |some i=>
   simp only[OH,HT.sIx,PZ,show(1:Int)>0 by decide,if_true];by_cases h:i<0
   .simp only[h,if_true] <;> omega
   .simp only[h,if_false] <;> omega
 .cases hi with
 |none=>simp[OH,HT.sIx]
 |some i=>
   simp only[OH,HT.sIx,PZ,show(1:Int)>0 by decide,if_true];by_cases h:i<0
   .simp only[h,if_true] <;> omega
   .simp only[h,if_false] <;> omega
theorem Lm(its:List b_)(lo hi:Option Int):slicePick its.toArray lo hi none=((its.drop (HT.sIx its.length 0 lo)).take (HT.sIx its.length its.length hi-HT.sIx its.length 0 lo)).toArray:=by obtain⟨h1,h2,h3⟩:=Lr lo hi its.toArray.size;unfold slicePick;rw[h1,h2,h3];simp only[sliceRange_one,pick_run,s_] <;> rfl
def vV(K:W.Frag):V->Option Int->Option Int->Hp->VK->Prop:=fun x lo hi H Q=>∃a xs,x=.ref a/\aU K H a xs/\∀p,H p=none->Q (.ref p) (upd H p (.lst (fW xs lo hi)))
theorem zX:gW X (vV X.K):=by intro pz s σ H x v vl vu lo hi sl Q I rx hs pl pu h;obtain⟨a,xs,rfl,hx,q⟩:=h;cases rx;obtain⟨its,r,ht,hz⟩:=I.list hx;have hlen:=r.length;refine⟨"list",_,Rh.lookup,ht.isList.typeIs,?_⟩;refine wpAny_getItem_list_slice ht.isList hs pl pu .none (by simp) ?_ (by rw[s_] <;> omega);rw[Lm,<-hlen];refine⟨.ref s.heap.objs.size,_,I.laid (t':=s.toks) (o:=.lst (fW xs lo hi)) (fun b ob q=>m_ _ q) (w_ _) ?_,rfl,q _ (I.hok.fresh (w_ _))⟩;exact⟨MI (BI xs lo hi) hz,_,0,(r.drop (HT.sIx xs.length 0 lo)).take (HT.sIx xs.length xs.length hi-HT.sIx xs.length 0 lo),B_ _ rfl⟩
def eD:V->Bool
|.non=>true
|.bl _=>true
|.int _=>true
|.str _=>true
|_=>false
def dZ:V->V->Bool
|.non,.non=>true
|.bl a,.bl b=>a==b
|.bl a,.int b=>(if a then 1 else 0)==b
|.int a,.bl b=>a==(if b then 1 else 0)
|.int a,.int b=>a==b
|.str a,.str b=>a==b
|_,_=>false
theorem DD{A:Mw}{s:g_}{y x:V}{u v:b_}(ry:am y u)(rx:am x v)(fy:eD y=true)(fx:eD x=true):QY A s u v (dZ y x):=by cases y with
|non=>cases ry;cases x with
 |non=>cases rx;exact RM _
 |bl b=>cases rx;exact SeqAt.EqAt.none_bool b
 |int b=>obtain⟨t,rfl⟩:=rx;exact SeqAt.EqAt.none_int b t
 |str b=>obtain⟨t,rfl⟩:=rx;exact SeqAt.EqAt.none_str b t
 |_=>exact absurd (show false=true from fx) i_
|bl a=>cases ry;cases x with
 |non=>cases rx;exact SeqAt.EqAt.bool_none a
 |bl b=>cases rx;exact SeqAt.EqAt.bool_bool a b
 |int b=>obtain⟨t,rfl⟩:=rx;exact SeqAt.EqAt.bool_int a b t
 |str b=>obtain⟨t,rfl⟩:=rx;exact SeqAt.EqAt.bool_str a b t
 |_=>exact absurd (show false=true from fx) i_
|int a=>obtain⟨t',rfl⟩:=ry;cases x with
 |non=>cases rx;exact SeqAt.EqAt.int_none a t'
 |bl b=>cases rx;exact SeqAt.EqAt.int_bool a t' b
 |int b=>obtain⟨t,rfl⟩:=rx;exact Ph a t' b t
 |str b=>obtain⟨t,rfl⟩:=rx;exact QU a t' b t
 |_=>exact absurd (show false=true from fx) i_
|str a=>obtain⟨t',rfl⟩:=ry;cases x with
 |non=>cases rx;exact SeqAt.EqAt.str_none a t'
 |bl b=>cases rx;exact SeqAt.EqAt.str_bool a t' b
 |int b=>obtain⟨t,rfl⟩:=rx;exact QV a t' b t
 |str b=>obtain⟨t,rfl⟩:=rx;exact SeqAt.EqAt.str_str a t' b t
 |_=>exact absurd (show false=true from fx) i_
|_=>exact absurd (show false=true from fy) i_
def cQ(x:V)(u:b_):Bool:=match u with
|.none=>dZ .non x
|.bool b=>dZ (.bl b) x
|.int i _=>dZ (.int i) x
|.str z _=>dZ (.str z) x
|_=>false
theorem l0{x y:V}{u:b_}(r:am y u)(f:eD y=true):cQ x u=dZ y x:=by cases y with
|non=>cases r;rfl
|bl b=>cases r;rfl
|int i=>obtain⟨t,rfl⟩:=r;rfl
|str z=>obtain⟨t,rfl⟩:=r;rfl
|_=>exact absurd (show false=true from f) i_
theorem l5{x:V}:∀{xs:List V}{us:List b_},ai xs us->xs.all eD=true->us.any (cQ x)=xs.any fun y=>dZ y x
|_,_,.nil,_=>rfl
|y::xs,u::us,.cons r t,f=>by rw[Nq,I_]at f;rw[N7,N7,l0 r f.1,l5 t f.2]
theorem kZ{A:Mw}{s:g_}{x:V}{v:b_}(rx:am x v)(fx:eD x=true):∀{xs:List V}{us:List b_},ai xs us->xs.all eD=true->∀u∈us,QY A s u v (cQ x u)
|_,_,.nil,_=>fun u hu=>by cases hu
|y::xs,u::us,.cons r t,f=>fun u' hu=>by
  rw[Nq,I_]at f;rcases p_.mp hu with rfl|hu
  .rw[l0 r f.1];exact DD r rx f.1 fx
  .exact kZ rx fx t f.2 u' hu
def qh(x:V)(xs:List V):Bool:=xs.any fun y=>dZ y x
def vX(K:W.Frag)(neg:Bool):R2:=fun x y H Q=>∃p xs,y=.ref p/\(aU K H p xs\/bI K H p xs)/\eD x=true/\xs.all eD=true/\Q (.bl (if neg then ! qh x xs else qh x xs)) H
theorem Kb:aR X (MC .In) (vX X.K false):=by
 intro pz s σ H x y v u Q I rx ry h;obtain⟨p,xs,rfl,hq,fx,fs,q⟩:=h;cases ry;rcases hq with hq|hq
 .obtain⟨its,r,pl,hz⟩:=I.list hq;refine SeqAt.in_listAt (cQ x) pl.isList (fun w hw=>kZ rx fx r fs w (by simpa using hw)) ⟨.bl _,H,I,rfl,?_⟩;rw[show its.toArray.any (cQ x)=its.any (cQ x)by simp,l5 r fs];exact q
 .obtain⟨its,r,pl,hz⟩:=I.tuple hq;refine SeqAt.in_tupleAt (cQ x) pl (fun w hw=>kZ rx fx r fs w (by simpa using hw)) ⟨.bl _,H,I,rfl,?_⟩;rw[show its.toArray.any (cQ x)=its.any (cQ x)by simp,l5 r fs];exact q
theorem K5:aR X (MC .NotIn) (vX X.K true):=by
 intro pz s σ H x y v u Q I rx ry h;obtain⟨p,xs,rfl,hq,fx,fs,q⟩:=h;cases ry;rcases hq with hq|hq
 .obtain⟨its,r,pl,hz⟩:=I.list hq;refine SeqAt.notIn_listAt (cQ x) pl.isList (fun w hw=>kZ rx fx r fs w (by simpa using hw)) ⟨.bl _,H,I,rfl,?_⟩;rw[show its.toArray.any (cQ x)=its.any (cQ x)by simp,l5 r fs];exact q
 .obtain⟨its,r,pl,hz⟩:=I.tuple hq;refine SeqAt.notIn_tupleAt (cQ x) pl (fun w hw=>kZ rx fx r fs w (by simpa using hw)) ⟨.bl _,H,I,rfl,?_⟩;rw[show its.toArray.any (cQ x)=its.any (cQ x)by simp,l5 r fs];exact q
theorem K6:aR X (MC .NotIn) (fun x y H Q=>∃i j,x=.str i/\y=.str j/\Q (.bl (!(!(Nn j i 0 j.length 1).isEmpty))) H):=by intro pz s σ H x y v u Q I rx ry h;obtain⟨i,j,rfl,rfl,q⟩:=h;obtain⟨t,rfl⟩:=rx;obtain⟨t',rfl⟩:=ry;exact notIn_str ⟨.bl _,H,I,rfl,q⟩
theorem dw.or{f:b_}{r r':List V->Hp->VK->Prop}(h:dw X f r)(h':dw X f r'):dw X f (fun xs H Q=>r xs H Q\/r' xs H Q):=by
 intro pz s σ H xs us Q I rs q;rcases q with q|q
 .exact h pz s σ H xs us Q I rs q
 .exact h' pz s σ H xs us Q I rs q
theorem Lb:dw X (.type "list") (fun xs H Q=>∃p ys,xs=[.ref p]/\(aU X.K H p ys\/bI X.K H p ys)/\∀l,H l=none->Q (.ref l) (upd H l (.lst ys))):=by
 intro pz s σ H xs us Q I r h;obtain⟨p,ys,rfl,hq,q⟩:=h;obtain⟨u,rfl,rx⟩:=fJ r;cases rx;have fin:∀(its:List b_),ai ys its->ys.length<=sizeLine->∀(h':Heap)(c':Nat),(∀b o',s.heap.get? b=some o'->h'.get? b=some o') ->h'.get? s.heap.objs.size=some { cls:=.type "list",dict:=none,data:=.seq its.toArray c',slots:=#[] }->EP X pz σ Q (.ref s.heap.objs.size) { s with heap:=h' }:=fun its r' hz h' c' kp e=>⟨.ref s.heap.objs.size,_,I.laid (t':=s.toks) kp (w_ _) (show bj X.prog X.w _ h' _ (.lst ys)from⟨hz,its,c',r',e⟩),rfl,q _ (I.hok.fresh (w_ _))⟩
 rcases hq with hq|hq
 .obtain⟨its,r',pl,hz⟩:=I.list hq;have hlen:=r'.length;obtain⟨o,ho,hc,n,hd⟩:=pl.isList;exact call_list_seq p (.inl rfl) ho hc hd (fun h' c' kp e=>fin its r' hz h' c' kp e) (by simp only[s_] <;> omega)
 .obtain⟨its,r',pl,hz⟩:=I.tuple hq;have hlen:=r'.length;obtain⟨o,ho,hc,n,hd⟩:=pl;exact call_list_seq p (.inr rfl) ho hc hd (fun h' c' kp e=>fin its r' hz h' c' kp e) (by simp only[s_] <;> omega)
theorem Lv:dw X (.type "tuple") (fun xs H Q=>∃p ys,xs=[.ref p]/\((aU X.K H p ys/\∀l,H l=none->Q (.ref l) (upd H l (.tup ys)))\/(bI X.K H p ys/\Q (.ref p) H))):=by
 intro pz s σ H xs us Q I r h;obtain⟨p,ys,rfl,h⟩:=h;obtain⟨u,rfl,rx⟩:=fJ r;cases rx;rcases h with⟨hq,q⟩|⟨hq,q⟩
 .obtain⟨its,r',pl,hz⟩:=I.list hq;have hlen:=r'.length;refine call_tuple_list pl.isList (fun h' kp=>?_) (by simp only[s_] <;> omega);have I1:Inv X pz σ H { s with heap:=h' }:=I.kept (t':=s.toks) kp;have I2:Inv X pz σ (upd H h'.objs.size (.tup ys)) { s with heap:=h'.push { cls:=.type "tuple",data:=.seq its.toArray } }:=I1.laid (t':=s.toks) (fun b o e=>m_ _ e) (w_ _) (show bj X.prog X.w _ _ _ (.tup ys)from⟨hz,its,r',S2 _ _,_,B_ _ rfl,rfl⟩);exact⟨.ref h'.objs.size,_,I2,rfl,q _ (I1.hok.fresh (w_ _))⟩
 .obtain⟨its,r',pl,hz⟩:=I.tuple hq;exact call_tuple_same pl ⟨.ref p,H,I,rfl,q⟩
def lv(K:W.Frag)(T:String)(x:V)(H:Hp):Prop:=match x with
|.str _=>T = "str"
|.int _=>T = "int"
| .ref p=>(T = "list"/\∃xs,aU K H p xs)\/(T = "tuple"/\((∃o,K.lookup p=some o/\o.cls=.type "tuple"/\o.dict=none)\/∃xs,Rd H p (.tup xs))) \/
   (T = "dict"/\((∃kvs,Rd H p (.dK kvs))\/∃kvs,H p=some (.dT kvs)))\/(T = "set"/\∃S n,H p=some (.set S n))
|_=>False
theorem za{pz:List (Addr×Obj)}{σ:St}{H:Hp}{s:g_}{T:String}{x:V}{v:b_}(I:Inv X pz σ H s)(r:am x v)(ty:lv X.K T x H):s.TypeIs v T/\∀a,v=.ref a->∃ob,s.heap.get? a=some ob/\ob.dict=none:=by cases x with
|str z=>obtain⟨t,rfl⟩:=r;cases(show T = "str" from ty);exact⟨typeIs_str s z t,fun _ e=>nomatch e⟩
|int i=>obtain⟨t,rfl⟩:=r;cases(show T = "int" from ty);exact⟨typeIs_int s i t,fun _ e=>nomatch e⟩
|ref p=>
  cases r;rcases ty with⟨rfl,xs,hq⟩|⟨rfl,⟨o,hk,hc,hd⟩|⟨xs,hq⟩⟩|⟨rfl,hk⟩|⟨rfl,S,n,hk⟩
  .obtain⟨its,_,pl,_⟩:=I.list hq;refine⟨pl.isList.typeIs,fun a e=>?_⟩;cases e;obtain⟨o,n,e,c,hd,_⟩:=pl;exact⟨o,e,hd⟩
  .refine⟨⟨o,I.kIn p o hk,hc⟩,fun a e=>?_⟩;cases e;exact⟨o,I.kIn _ o hk,hd⟩
  .obtain⟨_,its,_,⟨o,ho,hc,_⟩,o2,ho2,hd2⟩:=hq.ok I.hok;refine⟨⟨o,ho,hc⟩,fun a e=>?_⟩;cases e;exact⟨o2,ho2,hd2⟩
  .have z:∃o,s.heap.get? p=some o/\o.ExactDict:=by
    rcases hk with⟨kvs,hk⟩|⟨kvs,hk⟩
    .obtain⟨_,_,_,_,o,_,_,e,ex,_⟩:=(show bj X.prog X.w H s.heap p (.dK kvs)from hk.ok I.hok)
     exact⟨o,e,ex⟩
    .obtain⟨_,_,_,_,o,_,_,e,ex,_⟩:=I.hok p _ hk;exact⟨o,e,ex⟩
   obtain⟨o,e,ex⟩:=z;refine⟨⟨o,e,ex.1⟩,fun a e2=>?_⟩;cases e2;exact⟨o,e,ex.2.1⟩
  .obtain⟨o,_,_,_,e,ex,_⟩:=I.hok p _ hk;refine⟨⟨o,e,ex.1⟩,fun a e2=>?_⟩;cases e2;exact⟨o,e,ex.2.1⟩
|_=>exact MY ty
def vQ(K:W.Frag)(T:String)(r:V->List V->Hp->VK->Prop)(to:TE):TE:=fun σ H Q=>to σ H fun x H1=>lv K T x H1/\r x [] H1 Q
def Mh(K:W.Frag)(T:String)(r:V->List V->Hp->VK->Prop)(to:TE)(t:TA):TE:=fun σ H Q=>to σ H fun x H1=>lv K T x H1/\t σ H1 fun xs H2=>r x xs H2 Q
variable{o e:Expr}{es:List Expr}{to:TE}{t:TA}{name:Str}{apos cpos:Pos}{T id:String}{r:V->List V->Hp->VK->Prop}
theorem Er(pa:Q0 T)(slot:Slot T name id)(hty:Rw (.builtin id)=pure (.type "method_descriptor"))(hm:f8 X id r)(ho:PE X o to)(hbase:N8 o name X.env (eval o X.env)=eval o X.env:=by rfl)(hline:(apos.endLine==cpos.line)=true:=by rfl):PE X (.Call (.Attribute o name apos) [] [] cpos) (vQ X.K T r to):=by intro pz s σ H Q I h;refine wpAny_Call_method0_late hbase hline (aG (ho pz s σ H _ I h) fun v s1 ⟨x,H1,I1,r1,ty,q1⟩=>?_);obtain⟨h1,h2⟩:=za I1 r1 ty;exact⟨T,id,pa,slot,hty,h1,h2,Qj rfl (PySem.evalArgs_none (hm pz s1 σ H1 x [] v [] Q I1 r1 .nil q1))⟩
theorem xI(pa:Q0 T)(slot:Slot T name id)(hty:Rw (.builtin id)=pure (.type "method_descriptor"))(hm:f8 X id r)(ho:PE X o to)(ha:PA X (e::es) t)(hbase:N8 o name X.env (eval o X.env)=eval o X.env:=by rfl)(hfew:((backTo cpos (j_ (e::es) X.env)).all (fun x=>! x.1)&&(Ri cpos (Px [] X.env)).all (fun x=>x.1.isSome)
   && decide ((e::es).length+([]:List OX).length+(if ([]:List OX).isEmpty then 0 else 1)<30))=true:=by rfl)(hline:(apos.endLine==cpos.line)=true:=by rfl)(hs:j_ (e::es) X.env=(false,eval e X.env)::j_ es X.env:=by rfl)(hplain:(backTo cpos (j_ es X.env)).any (·.1)=false:=by rfl):PE X (.Call (.Attribute o name apos) (e::es) [] cpos) (Mh X.K T r to t):=by intro pz s σ H Q I h;refine wpAny_Call_method_late hbase hfew hline rfl (aG (ho pz s σ H _ I h) fun v s1 ⟨x,H1,I1,r1,ty,q1⟩=>?_);obtain⟨h1,h2⟩:=za I1 r1 ty;refine⟨T,id,pa,slot,hty,h1,h2,?_⟩;have hA:=ha cpos pz s1 σ H1 _ I1 q1;rw[hs]at hA ⊢;refine Qj (by show(false || (backTo cpos (j_ es X.env)).any (·.1))=false;rw[hplain] <;> rfl) (Calls.evalArgs_plain ?_);exact aG hA fun us s2 ⟨vs,H2,I2,r2,q2⟩=>hm pz s2 σ H2 x vs v us Q I2 r1 r2 q2
end
def Mp(X:Cx)(id:String)(r:V->List V->Hp->VK->Prop):Prop:=∀(pz:List (Addr×Obj))(s:g_)(σ:St)(H:Hp)(x:V)(xs:List V)(v:b_)(us:List b_)(Q:VK),Inv X pz σ H s->am x v->ai xs us->r x xs H Q ->z_ (E_ X.prog X.w) X.A (call (.builtin id) (v::us)) (EP X pz σ Q) X.xe s
theorem ai.one{x:V}{us:List b_}(h:ai [x] us):∃u,us=[u]/\am x u:=by cases h with
|cons r t=>cases t;exact⟨_,rfl,r⟩
theorem ai.zero:∀{us:List b_},ai [] us->us=[]
|_,.nil=>rfl
theorem ai.eraseIdx:∀{xs:List V}{us:List b_}(i:Nat),ai xs us->ai (xs.eraseIdx i) (us.eraseIdx i)
|_,_,_,.nil=>.nil
|_,_,0,.cons _ t=>t
|_,_,i+1,.cons r t=>.cons r (ai.eraseIdx i t)
theorem ai.reverse{xs:List V}{us:List b_}(h:ai xs us):ai xs.reverse us.reverse:=by induction h with
|nil=>exact .nil
|cons r t ih=>rw[OM,OM];exact ai.append ih (.cons r .nil)
section
variable{X:Cx}{pz:List (Addr×Obj)}{σ:St}{H:Hp}{s:g_}{l b:Addr}{xs ys zs:List V}
theorem Inv.lset{its its':List b_}{n:Nat}{f:Array b_->Array b_}{t':Nat}(I:Inv X pz σ H s)(hH:H l=some (.lst xs))(e:s.heap.get? l=some { cls:=.type "list",data:=.seq its.toArray n })(hf:f its.toArray=its'.toArray)(hv:ai ys its')(hz:ys.length<=sizeLine):Inv X pz σ (upd H l (.lst ys)) { s with heap:=s.heap.update l (NZ f),toks:=t' }:=by have q:=PySem.IsL.update e f;rw[hf]at q;refine I.write (x:=l) (e:=l) (by rw[hH];exact trivial) (.inl rfl) (fun b' u hb hu=>(Qi s.heap (NZ f) (NO hb)).trans hu) ⟨_,q⟩ ?_;exact⟨hz,its',_,hv,q⟩
theorem Inv.lnew{its:List b_}{t':Nat}(I:Inv X pz σ H s)(hv:ai ys its)(hz:ys.length<=sizeLine):Inv X pz σ (upd H s.heap.objs.size (.lst ys)) { s with heap:=s.heap.push { cls:=.type "list",data:=.seq its.toArray },toks:=t' }:=I.laid (fun _ _ q=>m_ _ q) (w_ _) ⟨hz,its,0,hv,B_ _ rfl⟩
theorem Inv.fresh(I:Inv X pz σ H s):H s.heap.objs.size=none:=I.hok.fresh (w_ _)
theorem Inv.lstM(I:Inv X pz σ H s)(hH:H l=some (.lst xs)):xs.length<=sizeLine/\∃(its:List b_)(n:Nat),ai xs its/\xs.length=its.length/\s.heap.get? l=some { cls:=.type "list",data:=.seq its.toArray n }:=by obtain⟨z,its,n,r,e⟩:=I.hok l _ hH;exact⟨z,its,n,r,r.length,e⟩
end
section
variable{X:Cx}
def z9:V->List V->Hp->VK->Prop:=fun x vs H Q=>∃l xs y,x=.ref l/\vs=[y]/\H l=some (.lst xs)/\xs.length<sizeLine/\Q .non (upd H l (.lst (xs++[y])))
theorem mH:Mp X "list.append" z9:=by intro pz s σ H x vs v us Q I rx rv h;obtain⟨l,xs,y,rfl,rfl,hH,hz,q⟩:=h;cases rx;obtain⟨u,rfl,ru⟩:=rv.one;obtain⟨z,its,n,r,hl,e⟩:=I.lstM hH;refine Q1 F.slot_list_append ⟨_,e,rfl⟩ F.entry_list_append (F.args_list_append_2 _ _) (PySem.list_append l its.toArray n u (by rw[s_];omega)) ⟨e,?_⟩;refine⟨.non,_,I.lset (its':=its++[u]) hH e (by simp) (r.append (.cons ru .nil)) ?_,rfl,q⟩;rw[MO,Qw];omega
end
section
variable{κ:Type}[DecidableEq κ]
def bX(kvs:List (κ×V))(k:κ):Option V:=(kvs.find? fun kv=>decide (kv.1=k)).map (·.2)
def bF(kvs:List (κ×V))(k:κ)(v:V):List (κ×V):=if (kvs.any fun kv=>decide (kv.1=k))=true then kvs.map (fun kv=>if kv.1=k then(kv.1,v)else kv)else kvs++[(k,v)]
def wR(kvs:List (κ×V))(k:κ):List (κ×V):=kvs.filter fun kv=>decide (kv.1≠k)
theorem oZ{p:κ×V}{r:List (κ×V)}{k:κ}(e:p.1=k):bX (p::r) k=some p.2:=by simp[bX,K_,e]
theorem mv{p:κ×V}{r:List (κ×V)}{k:κ}(e:¬ p.1=k):bX (p::r) k=bX r k:=by simp[bX,K_,e]
theorem AV(k:κ):∀kvs:List (κ×V),(kvs.any fun kv=>decide (kv.1=k))=(bX kvs k).isSome
|[]=>rfl
|p::r=>by
  rw[N7];by_cases e:p.1=k
  .simp only[oZ e,decide_eq_true e,Bool.true_or,Option.isSome_some]
  .rw[mv e,decide_eq_false e,Bool.false_or];exact AV k r
theorem tF(kvs:List (κ×V))(k:κ)(v:V):(bF kvs k v).length<=kvs.length+1:=by
 unfold bF;split
 .rw[l_];omega
 .rw[MO,MM,O5];omega
theorem ck.isSome_eq{o:Option V}{u:Option b_}(r:ck o u):o.isSome=u.isSome:=by cases o with
|none=>cases u with
 |none=>rfl
 |some _=>exact(show False from r).elim
|some _=>cases u with
 |none=>exact(show False from r).elim
 |some _=>rfl
theorem ck.getD{o:Option V}{u:Option b_}{d:V}{d':b_}(r:ck o u)(rd:am d d'):am (o.getD d) (u.getD d'):=by cases o with
|none=>cases u with
 |none=>exact rd
 |some _=>exact(show False from r).elim
|some _=>cases u with
 |none=>exact(show False from r).elim
 |some _=>exact r
theorem KV.val{kvs:List (κ×V)}{vs:List (κ×b_)}(r:KV kvs vs)(k:κ):ck (bX kvs k) (QP vs k):=by
 unfold KV at r
 induction r with
|nil=>exact True.intro
|@cons p q ps qs h t ih=>
  obtain⟨h1,h2⟩:=h;by_cases e:p.1=k
  .have e':q.1=k:=h1.symm.trans e;have b:QP (q::qs) k=some q.2:=by simp[QP,K_,e']
   rw[oZ e,b];exact h2
  .have e':¬ q.1=k:=fun z=>e (h1.trans z);have b:QP (q::qs) k=QP qs k:=by simp[QP,K_,e']
   rw[mv e,b];exact ih
theorem KV.any{kvs:List (κ×V)}{vs:List (κ×b_)}(r:KV kvs vs)(k:κ):(kvs.any fun kv=>decide (kv.1=k))=vs.any fun kv=>decide (kv.1=k):=by
 unfold KV at r
 induction r with
|nil=>rfl
|cons h t ih=>rw[N7,N7,ih,h.1]
theorem KV.repl{kvs:List (κ×V)}{vs:List (κ×b_)}(r:KV kvs vs)(k:κ){y:V}{u:b_}(ry:am y u):KV (kvs.map fun kv=>if kv.1=k then(kv.1,y)else kv) (vs.map fun kv=>if kv.1=k then(kv.1,u)else kv):=by
 unfold KV at r ⊢
 induction r with
|nil=>exact .nil
|@cons p q ps qs h t ih=>
  rw[G_,G_];refine .cons ?_ ih;obtain⟨h1,h2⟩:=h;by_cases e:p.1=k
  .rw[if_pos e,if_pos (h1.symm.trans e)];exact⟨h1,ry⟩
  .rw[if_neg e,if_neg (fun z=>e (h1.trans z))];exact⟨h1,h2⟩
theorem KV.put{kvs:List (κ×V)}{vs:List (κ×b_)}(r:KV kvs vs)(k:κ){y:V}{u:b_}(ry:am y u):KV (bF kvs k y) (stored vs k u):=by
 unfold bF stored;rw[r.any k];by_cases e:(vs.any fun kv=>decide (kv.1=k))=true
 .rw[if_pos e,if_pos e];exact r.repl k ry
 .rw[if_neg e,if_neg e];exact Paired.snoc r ⟨rfl,ry⟩
theorem KV.drop{kvs:List (κ×V)}{vs:List (κ×b_)}(r:KV kvs vs)(k:κ):KV (wR kvs k) (without vs k):=by
 unfold KV at r ⊢;unfold wR without
 induction r with
|nil=>exact .nil
|@cons p q ps qs h t ih=>
  obtain⟨h1,h2⟩:=h;rw[ME,ME];by_cases e:p.1=k
  .have a:¬ decide (p.1≠k)=true:=by simp[e]
   have b:¬ decide (q.1≠k)=true:=by simp[h1.symm.trans e]
   rw[if_neg a,if_neg b];exact ih
  .have e':¬ q.1=k:=fun z=>e (h1.trans z);have a:decide (p.1≠k)=true:=by simp[e]
   have b:decide (q.1≠k)=true:=by simp[e']
   rw[if_pos a,if_pos b];exact .cons ⟨h1,h2⟩ ih
theorem KV.length{kvs:List (κ×V)}{vs:List (κ×b_)}(r:KV kvs vs):kvs.length=vs.length:=Paired.length r
end
theorem lF{P:D_}{w:Mu}{k:au}{u:b_}(r:am (kV k) u):(dQ P w).is k u=true:=by cases k with
|inl i=>obtain⟨t,e⟩:=(show ∃t,u=Value.int i t from r);subst e;exact KS P w i t
|inr x=>obtain⟨t,e⟩:=(show ∃t,u=Value.str x t from r);subst e;exact KU P w x t
theorem A7{P:D_}{w:Mu}:∀{ks:List au}{us:List b_},ai (ks.map kV) us->ItemsAre (dQ P w) ks us
|[],_,r=>by rw[Qg]at r;cases r;exact .nil
|k::ks,_,r=>by rw[G_]at r;cases r with
 |cons h t=>exact .cons (lF h) (A7 t)
abbrev KT(H:Hp):List (List au×V)->List (List au×Addr×b_)->Prop:=Paired fun p q=>p.1=q.1/\H q.2.1=some (.tup (p.1.map kV))/\am p.2 q.2.2
theorem KT.val{H:Hp}{kvs:List (List au×V)}{xs:List (List au×Addr×b_)}(r:KT H kvs xs)(k:List au):ck (bX kvs k) ((RI xs k).map (·.2)):=by induction r with
|nil=>exact True.intro
|@cons p q ps qs h t ih=>
  obtain⟨h1,_,h2⟩:=h;by_cases e:p.1=k
  .have e':q.1=k:=h1.symm.trans e;have b:RI (q::qs) k=some q.2:=by simp[RI,K_,e']
   rw[oZ e,b];exact h2
  .have e':¬ q.1=k:=fun z=>e (h1.trans z);have b:RI (q::qs) k=RI qs k:=by simp[RI,K_,e']
   rw[mv e,b];exact ih
theorem KT.repl{H:Hp}{kvs:List (List au×V)}{xs:List (List au×Addr×b_)}(r:KT H kvs xs)(k:List au){y:V}{u:b_}(ry:am y u):KT H (kvs.map fun kv=>if kv.1=k then(kv.1,y)else kv) (xs.map (putAt k u)):=by induction r with
|nil=>exact .nil
|@cons p q ps qs h t ih=>
  rw[G_,G_];refine .cons ?_ ih;obtain⟨h1,h2,h3⟩:=h;unfold putAt;by_cases e:p.1=k
  .rw[if_pos e,if_pos (h1.symm.trans e)];exact⟨h1,h2,ry⟩
  .rw[if_neg e,if_neg (fun z=>e (h1.trans z))];exact⟨h1,h2,h3⟩
theorem KT.put{H:Hp}{kvs:List (List au×V)}{xs:List (List au×Addr×b_)}(r:KT H kvs xs)(k:List au){b:Addr}{y:V}{u:b_}(hb:H b=some (.tup (k.map kV)))(ry:am y u):KT H (bF kvs k y) (storedH xs k b u):=by
 have e:(kvs.any fun kv=>decide (kv.1=k))=(RI xs k).isSome:=by rw[AV,(r.val k).isSome_eq,Py]
 unfold bF storedH;rw[e];by_cases q:(RI xs k).isSome=true
 .rw[if_pos q,if_pos q];exact r.repl k ry
 .rw[if_neg q,if_neg q];exact Paired.snoc r ⟨rfl,hb,ry⟩
theorem KT.keeps{H H':Hp}{kvs:List (List au×V)}{xs:List (List au×Addr×b_)}(r:KT H kvs xs)(ht:∀b ys,H b=some (.tup ys)->H' b=some (.tup ys)):KT H' kvs xs:=Paired.mapP r fun _ _ z=>⟨z.1,ht _ _ z.2.1,z.2.2⟩
section
variable{P:D_}{w:Mu}{H:Hp}{h:Heap}{a:Addr}
theorem yD{u:HO}(ok:bU P w H h)(e:Rd H a u):bj P w H h a u:=e.ok ok
theorem kF{kvs:List (au×V)}(ok:bU P w H h)(e:Rd H a (.dK kvs)):kvs.length<=sizeLine/\(a==NW)=false/\∃vs,KV kvs vs/\h.DictOf (dQ P w) a vs:=show bj P w H h a (.dK kvs)from yD ok e
theorem C1{kvs:List (au×V)}(ok:bU P w H h)(e:H a=some (.dK kvs)):kvs.length<=sizeLine/\(a==NW)=false/\∃vs,KV kvs vs/\h.DictOf (dQ P w) a vs:=kF ok (.inl e)
theorem lT{ks:List au}(ok:bU P w H h)(e:H a=some (.tup (ks.map kV))):(QN (dQ P w)).is h ks a:=by
 obtain⟨_,its,r,⟨o,h1,h2,n,h3⟩,_⟩:=(show bj P w H h a (.tup (ks.map kV))from ok a _ e)
 exact⟨o,its.toArray,n,h1,h2,h3,by simpa using A7 r⟩
theorem lI{kvs:List (List au×V)}(ok:bU P w H h)(e:Rd H a (.dT kvs)):kvs.length<=sizeLine/\(a==NW)=false /\∃xs,KT H kvs xs/\h.DictOfH (QN (dQ P w)) a xs:=by
 obtain⟨z,y,xs,r,o,es,ep,h1,h2,h3,h4,h5⟩:=(show bj P w H h a (.dT kvs)from yD ok e)
 refine⟨z,y,xs,r,o,es,ep,h1,h2,h3,h4,fun x hx=>?_,h5⟩;have all:∀{l:List (List au×V)}{m:List (List au×Addr×b_)},KT H l m->∀x∈m,(QN (dQ P w)).is h x.1 x.2.1:=by
  intro l m q
  induction q with
 |nil=>intro x hx;exact nomatch hx
 |@cons p q ps qs hq t ih=>
   intro x hx;rcases p_.mp hx with e|hx
   .subst e;exact lT ok (by rw[<-hq.1];exact hq.2.1)
   .exact ih x hx
 exact all r x hx
theorem C2{kvs:List (List au×V)}(ok:bU P w H h)(e:H a=some (.dT kvs)):kvs.length<=sizeLine/\(a==NW)=false /\∃xs,KT H kvs xs/\h.DictOfH (QN (dQ P w)) a xs:=lI ok (.inl e)
end
def dj(H:Hp)(a:Addr)(y:V)(r:Option V):Prop:=(∃kvs k,Rd H a (.dK kvs)/\y=kV k/\r=bX kvs k)\/∃kvs k b,Rd H a (.dT kvs)/\y=.ref b/\H b=some (.tup (k.map kV))/\r=bX kvs k
def e8(H:Hp)(a:Addr)(y v:V)(H':Hp):Prop:=(∃kvs k,H a=some (.dK kvs)/\y=kV k/\kvs.length<sizeLine/\H'=upd H a (.dK (bF kvs k v))) \/∃kvs k b,H a=some (.dT kvs)/\y=.ref b/\H b=some (.tup (k.map kV))/\kvs.length<sizeLine/\H'=upd H a (.dT (bF kvs k v))
theorem dj.k{H:Hp}{a:Addr}{kvs:List (au×V)}{k:au}(e:H a=some (.dK kvs)):dj H a (kV k) (bX kvs k):=.inl ⟨kvs,k,.inl e,rfl,rfl⟩
theorem dj.t{H:Hp}{a b:Addr}{kvs:List (List au×V)}{k:List au}(e:H a=some (.dT kvs))(eb:H b=some (.tup (k.map kV))):dj H a (.ref b) (bX kvs k):=.inr ⟨kvs,k,b,.inl e,rfl,eb,rfl⟩
theorem e8.k{H:Hp}{a:Addr}{kvs:List (au×V)}{k:au}{v:V}(e:H a=some (.dK kvs))(hl:kvs.length<sizeLine):e8 H a (kV k) v (upd H a (.dK (bF kvs k v))):=.inl ⟨kvs,k,e,rfl,hl,rfl⟩
theorem e8.t{H:Hp}{a b:Addr}{kvs:List (List au×V)}{k:List au}{v:V}(e:H a=some (.dT kvs))(eb:H b=some (.tup (k.map kV)))(hl:kvs.length<sizeLine):e8 H a (.ref b) v (upd H a (.dT (bF kvs k v))):=.inr ⟨kvs,k,b,e,rfl,eb,hl,rfl⟩
section
variable{X:Cx}{pz:List (Addr×Obj)}{σ:St}{H:Hp}{s:g_}{a:Addr}{y v:V}{u r:b_}{o:Option V}{A:Mw}{E:b_->g_->Prop}
theorem Inv.big(I:Inv X pz σ H s):NW<s.heap.objs.size:=by have h:My<s.heap.objs.size:=(I.mod.glob.keeps I.bk).lt;exact Nat.lt_trans (by decide) h
theorem JE{Q:b_->g_->Prop}(hu:A.units+1<NN)(I:Inv X pz σ H s)(g:dj H a y (some v))(ry:am y u)(h:∀w' s',Inv X pz σ H s'->am v w'->Q w' s'):z_ (E_ X.prog X.w) A (Qf (.ref a) u) Q E s:=by
 rcases g with⟨kvs,k,e,ey,l⟩|⟨kvs,k,b,e,ey,eb,l⟩
 .subst ey;obtain⟨z,hd,vs,rel,dd⟩:=kF I.hok e;obtain⟨w',hw,rw'⟩:=ck.some_of (v:=v) (o:=QP vs k) (by rw[l];exact rel.val k);exact wpAny_getItem_of (lF ry) dd.mapOf hw (h w' _ (I.tok _) rw')
 .subst ey;cases(show u=Value.ref b from ry);obtain⟨z,hd,xs,rel,dd⟩:=lI I.hok e;obtain⟨w',hw,rw'⟩:=ck.some_of (v:=v) (o:=(RI xs k).map (·.2)) (by rw[l];exact rel.val k);obtain⟨p,hp,hp2⟩:=Option.map_eq_some_iff.mp hw;refine wpAny_getItem_heap (OA hu) (lT I.hok eb) dd hp ?_;rw[hp2];exact h w' _ (I.tok _) rw'
theorem wG{Q:b_->g_->Prop}(hu:A.units+1<NN)(I:Inv X pz σ H s)(g:dj H a y o)(ry:am y u)(h:∀s',Inv X pz σ H s'->Q (.bool o.isSome) s'):z_ (E_ X.prog X.w) A (MC .In u (.ref a)) Q E s:=by
 rcases g with⟨kvs,k,e,ey,l⟩|⟨kvs,k,b,e,ey,eb,l⟩
 .subst ey;obtain⟨z,hd,vs,rel,dd⟩:=kF I.hok e;refine wpAny_in_of (lF ry) hd dd.mapOf ?_;rw[<-(rel.val k).isSome_eq,<-l];exact h _ (I.tok _)
 .subst ey;cases(show u=Value.ref b from ry);obtain⟨z,hd,xs,rel,dd⟩:=lI I.hok e;refine wpAny_in_heap (OA hu) (lT I.hok eb) hd dd ?_;have q:=(rel.val k).isSome_eq;rw[Py]at q;rw[<-q,<-l];exact h _ (I.tok _)
theorem GT{Q:b_->g_->Prop}(hu:A.units+1<NN)(I:Inv X pz σ H s)(g:dj H a y o)(ry:am y u)(h:∀s',Inv X pz σ H s'->Q (.bool (! o.isSome)) s'):z_ (E_ X.prog X.w) A (MC .NotIn u (.ref a)) Q E s:=by
 rcases g with⟨kvs,k,e,ey,l⟩|⟨kvs,k,b,e,ey,eb,l⟩
 .subst ey;obtain⟨z,hd,vs,rel,dd⟩:=kF I.hok e;refine wpAny_notIn_of (lF ry) hd dd.mapOf ?_;rw[<-(rel.val k).isSome_eq,<-l];exact h _ (I.tok _)
 .subst ey;cases(show u=Value.ref b from ry);obtain⟨z,hd,xs,rel,dd⟩:=lI I.hok e;refine wpAny_notIn_heap (OA hu) (lT I.hok eb) hd dd ?_;have q:=(rel.val k).isSome_eq;rw[Py]at q;rw[<-q,<-l];exact h _ (I.tok _)
theorem zE{h':Heap}{t':Nat}{ob:HO}(I:Inv X pz σ H s)(mu:nR (H a))(hs:Pb a s.heap h')(he:∃q,h'.get? a=some q)(new:bj X.prog X.w (upd H a ob) h' a ob):Inv X pz σ (upd H a ob) { s with heap:=h',toks:=t' }:=I.write (x:=a) (e:=a) mu (.inl rfl) (fun b q hb z=>(hs.2 b hb).trans z) he new
theorem DC{P:D_}{w:Mu}{H':Hp}{h':Heap}{kvs:List (au×V)}{vs:List (au×b_)}(z:kvs.length<=sizeLine)(hd:(a==NW)=false)(rel:KV kvs vs)(dd:h'.DictOf (dQ P w) a vs):bj P w H' h' a (.dK kvs):=⟨z,hd,vs,rel,dd⟩
theorem JF{H':Hp}{Q:Unit->g_->Prop}(hu:A.units+1<NN)(I:Inv X pz σ H s)(g:e8 H a y v H')(ry:am y u)(rv:am v r)(h:∀s',Inv X pz σ H' s'->Q () s'):z_ (E_ X.prog X.w) A (Tb (.ref a) u r) Q E s:=by
 rcases g with⟨kvs,k,e,ey,l,eH⟩|⟨kvs,k,b,e,ey,eb,l,eH⟩
 .subst ey eH;obtain⟨z,hd,vs,rel,dd⟩:=C1 I.hok e;have hz:vs.length<=sizeLine:=by rw[<-rel.length];exact z
  have hl:(bF kvs k v).length<=sizeLine:=by have:=tF kvs k v;omega
  refine wpAny_setItem_pairs (hsz:=hz) (lF ry) dd fun h' dd' hs=>h _ ?_;have he:∃q,h'.get? a=some q:=let⟨q,_,_,hq,_⟩:=dd';⟨q,hq⟩;exact zE I (by rw[e];exact True.intro) hs he (DC hl hd (rel.put k rv) dd')
 .subst ey eH;cases(show u=Value.ref b from ry);obtain⟨z,hd,xs,rel,dd⟩:=C2 I.hok e;have hz:xs.length<=sizeLine:=by rw[<-Paired.length rel];exact z
  have hl:(bF kvs k v).length<=sizeLine:=by have:=tF kvs k v;omega
  refine wpAny_setItem_heap (hsz:=hz) (OA hu) (lT I.hok eb) dd fun h' dd' hs=>h _ ?_;obtain⟨q,es,ep,hq,h2,h3,h4,_,h5⟩:=dd';refine zE I (by rw[e];exact True.intro) hs ⟨q,hq⟩ ⟨hl,hd,_,(rel.put k eb rv).keeps fun c ys ec=>?_,q,es,ep,hq,h2,h3,h4,h5⟩;rw[aZ (Df ec e (fun z=>nomatch z))];exact ec
end
section
variable{X:Cx}{pz:List (Addr×Obj)}{σ:St}{H:Hp}{s:g_}{a:Addr}{kvs:List (au×V)}{k:au}{u:b_}{A:Mw}{E:b_->g_->Prop}
theorem C0{Q:b_->g_->Prop}(I:Inv X pz σ H s)(e:Rd H a (.dK kvs))(h:∀t s',Inv X pz σ H s'->Q (.int kvs.length t) s'):z_ (E_ X.prog X.w) A (call (.builtin "len") [.ref a]) Q E s:=by obtain⟨z,hd,vs,rel,dd⟩:=kF I.hok e;refine call_len_dict hd dd (by rw[<-rel.length];rw[MU]at z;omega) ?_;rw[<-rel.length];exact h _ _ (I.tok _)
end
theorem KP{X:Cx}{pz:List (Addr×Obj)}{σ:St}{H:Hp}{s:g_}{a:Addr}{y:V}{o:Option V}(I:Inv X pz σ H s)(g:dj H a y o):s.TypeIs (.ref a) "dict" := by
 rcases g with⟨kvs,k,e,_,_⟩|⟨kvs,k,b,e,_,_,_⟩
 .obtain⟨_,_,vs,_,dd⟩:=kF I.hok e;exact dd.typeIs
 .obtain⟨_,_,xs,_,dd⟩:=lI I.hok e;exact dd.typeIs
theorem HD{P:D_}{w:Mu}{H:Hp}(h:Heap)(hb:NW<h.objs.size):bj P w H (h.push { cls:=.type "dict",data:=.dict #[] }) h.objs.size (.dK []):=⟨MD _,beq_eq_false_iff_ne.mpr (NO (Mv hb)),[],.nil,Heap.DictOf.new h⟩
def Fe:TE:=fun _ H Q=>∀p,H p=none->Q (.ref p) (upd H p (.dK []))
section
variable{X:Cx}{pos:Pos}
theorem IK:PE X (.Dict [] [] pos) Fe:=fun pz s σ H Q I h=>wpAny_Dict_empty ⟨.ref s.heap.objs.size,_,I.laid (a:=s.heap.objs.size) (o:=.dK []) (t':=s.toks) (fun _ _ q=>m_ _ q) (w_ _) (HD s.heap I.big),rfl,h _ (I.hok.fresh (w_ _))⟩
end
def ja(kvs more:List (au×V)):List (au×V):=more.foldl (fun acc kv=>bF acc kv.1 kv.2) kvs
theorem KV.merge:∀{more:List (au×V)}{rs:List (au×b_)}{kvs:List (au×V)}{vs:List (au×b_)},KV more rs->KV kvs vs->KV (ja kvs more) (merged vs rs):=by
 intro more rs kvs vs r;unfold KV at r
 induction r generalizing kvs vs with
|nil=>intro q;exact q
|@cons p q ps qs h t ih=>
  intro r0;have e:KV (bF kvs p.1 p.2) (stored vs q.1 q.2):=by have:=r0.put p.1 h.2;rw[<-h.1];exact this
  exact ih e
theorem Cn:∀(more kvs:List (au×V)),(ja kvs more).length<=kvs.length+more.length
|[],kvs=>by show kvs.length<=kvs.length+0;omega
|p::r,kvs=>by have h1:=Cn r (bF kvs p.1 p.2);have h2:=tF kvs p.1 p.2;show(ja (bF kvs p.1 p.2) r).length<=_;rw[MM];omega
structure M1(X:Cx)(o:Expr)(m:Str)(apos:Pos)(e:Expr)(cpos:Pos):Prop where
 base:N8 o m X.env (eval o X.env)=eval o X.env
 few:((backTo cpos (j_ [e] X.env)).all (fun x=>! x.1)&&(Ri cpos (Px [] X.env)).all (fun x=>x.1.isSome)
  && decide (([e]:List Expr).length+([]:List OX).length+(if ([]:List OX).isEmpty then 0 else 1)<30))=true
 line:(apos.endLine==cpos.line)=true
 trees:backTo cpos (j_ [e] X.env)=[(false,eval e X.env)]
structure M2(X:Cx)(o:Expr)(m:Str)(apos:Pos)(e f:Expr)(cpos:Pos):Prop where
 base:N8 o m X.env (eval o X.env)=eval o X.env
 few:((backTo cpos (j_ [e,f] X.env)).all (fun x=>! x.1)&&(Ri cpos (Px [] X.env)).all (fun x=>x.1.isSome)
  && decide (([e,f]:List Expr).length+([]:List OX).length+(if ([]:List OX).isEmpty then 0 else 1)<30))=true
 line:(apos.endLine==cpos.line)=true
 trees:backTo cpos (j_ [e,f] X.env)=[(false,eval e X.env),(false,eval f X.env)]
end L2
namespace Att
open PySem PySem.W PySem.Calls PyProof.Rows
theorem LC{P:Params}{h:Heap}:∀(ns:List Int)(vs:List b_),WellAll P h vs (ns.map WData.int)->On vs ns:=by
 intro ns
 induction ns with
|nil=>intro vs w;rw[Qg]at w;cases w;exact .nil
|cons n ns ih=>intro vs w;rw[G_]at w;cases w with
 |cons a b=>cases a;exact .cons _ _ (ih _ b)
theorem JR{l:OpenLaw}{n:Nat}(hn:l.most=some n){P:Params}{h:Heap}{args:List WData}{vals:List b_}(hpre:l.row.toRowW.claim.pre args=true)(hwl:WellAll P h vals args):∃a vs ns,vals=[Value.ref a]/\args=[WData.list (ns.map WData.int)]/\h.get? a=some { cls:=.type "list",data:=.seq vs.toArray }/\On vs ns/\ns.length<=n:=by
 have hsh:WShape.hasAll [] args [.list .int]=true:=(pre_splitW hpre).1;have hc:l.pre.holds [] { args:=args }=true:=(pre_splitW hpre).2;obtain⟨d,r,rfl,h1,h2⟩:=hasAllW_cons hsh;obtain rfl:=hasAllW_nil h2;obtain⟨xs,rfl,h3⟩:=hasW_list h1;obtain⟨ns,rfl⟩:=items_int h3;have hlen:ns.length<=n:=by
  unfold OpenLaw.pre at hc;have h4:(WTm.not (.lt (.lit (.int (n:Int))) (.len (.arg 0)))).holds [] { args:=[.list (ns.map .int)] }=true:=by have h4:=(holds_andW hc).1;rw[hn]at h4;exact h4
  have h5:=condW_of h4 (w_not (w_lt w_lit (w_len_list (w_arg rfl))));rw[l_]at h5;refine Nat.le_of_not_lt fun q=>?_;have q':(n:Int)<((ns.length:Nat):Int):=by omega
  first
   |(rw[decide_eq_true q']at h5;exact absurd h5 (by decide))
   |(simp at h5;omega)
 cases hwl with
|cons w1 w2=>cases w2;cases w1 with
 |list ho hall=>exact⟨_,_,ns,rfl,rfl,ho,LC ns _ hall,hlen⟩
theorem J4(l:OpenLaw)(args:List WData):l.row.toRowW.claim.post args (.bool true) args=true:=
 postW_of (r:=l.row.toRowW) (X:=(true==true))
  (show Tu [] (.bool true) .bool=true by first|rfl|decide|simp[Tu,WShape.arms,WShape.armsAll])
  (show(WTm.eq .res (.lit (.bool true))).value [] { args:=args,res:=some (.bool true),after:=args }=some (.bool (true==true))from w_eq_bool (w_res rfl) w_lit) rfl
theorem attach_call{l:OpenLaw}{n:Nat}{q:D_}{loose:List Str}{XP:(Str->Option b_)->Heap->Prop}{YP:Mu->Heap->Prop}{d:DefRec}(hn:l.most=some n)(hdf:d.params.defaults=[])(call:∀(w:Mu)(s₀ s₁:g_)(mg mb:Str->Option b_)(fa:Addr)(o:Obj)(pm cd doc:b_)(a:Addr)(vs:List b_)(ns:List Int),Ground q loose [] XP w s₀ mg mb s₁.heap->YP w s₁.heap ->s₁.heap.get? fa=some o->o.data=.func (docDef d.name d.params d.body d.scope pm cd doc)->s₁.heap.CodeRec cd d.name->mg d.name=some (.ref fa) ->s₁.heap.get? a=some { cls:=.type "list",data:=.seq vs.toArray }->On vs ns->ns.length<=n->s₁.gens = #[] ->Qb (E_ l.prog w) Qk (.call (.ref fa) ⟨[.ref a],[]⟩) (fun r s'=>r=.ok (.ret (.bool true))/\OldK s₁.heap s'.heap/\s'.os=s₁.os/\OW s'.gens) s₁):WalkO q loose XP YP l.row.toRowW d [] (fun f vs=>R5 f vs):=by intro w s₀ s₁ mg mb G Y fa o pm cd doc dV kV ho hd hcd hD hmg hg args vals as hpre hlay hrd hwl hlo;obtain rfl:dV=.none:=Dflts.none hD hdf;obtain rfl:kV=.none:=Dflts.noKw hD;obtain⟨a,vs,ns,rfl,rfl,hobj,hints,hlen⟩:=JR hn hpre hwl;refine enter_call (Qc (call w s₀ s₁ mg mb fa o pm cd doc a vs ns G Y ho (fd_plain hd) hcd hmg hobj hints hlen hg) fun r s' hq=>?_);obtain⟨rfl,h2,h3,h4⟩:=hq;exact⟨.inl ⟨.bool true,.bool true,[],rfl,fun _=>rfl,.bool true,J4 l _,fun _=>⟨List.Pairwise.nil,fun _ hm=>(nomatch hm)⟩⟩,h2,h3,h4⟩
end Att
namespace L2
open PySem PySem.Spec PyProof.Rows
theorem BD:∀{vs:List b_}{ns:List Int},On vs ns->ai (ns.map V.int) vs
|_,_,.nil=>.nil
|_,_,.cons n t h=>.cons ⟨t,rfl⟩ (BD h)
def ku(H:Hp):Prop:=∀b,H b=none\/∃o xs,H b=some (.frz o (.lst xs))
theorem HU{P:D_}{w:Mu}{K:W.Frag}{mg mb:Str->Option b_}{CX:fE}{k:Nat}{fa a:Addr}{fd:M5}{x:Str}{sp:Sp}{s₁:g_}{vs:List b_}{ns:List Int}(KX:K.In s₁.heap)(hns:s₁.heap.Ns My mg)(hb:s₁.heap.Ns RY mb)(hbb:∀x:Str,x≠"__name__"->mb x=NX x)(hlim:s₁.heap.NoLimit)(hg:s₁.gens = #[])(ha:s₁.heap.get? a=some { cls:=.type "list",data:=.seq vs.toArray })(hi:On vs ns)(hl:ns.length<=sizeLine)(hr:Room k Qk)(F:∀base:Heap,K.In base->base.Ns My mg->FnOk P w K mg base CX k fa fd [x] sp)(hbind:∀(s:g_)(u:b_),QO s fd ⟨[u],[]⟩ [(x,u)])(hsp:∀H:Hp,ku H->aU K H a (ns.map V.int)->sp [.ref a] H (fun v _=>v=.bl true) fun _ _ _=>False)(hCX:∀H e s',CX [] H s₁ (fun _ _ _=>False) e s'->False):Qb (E_ P w) Qk (.call (.ref fa) ⟨[.ref a],[]⟩) (fun r s'=>r=.ok (.ret (.bool true))/\OldK s₁.heap s'.heap/\s'.os=s₁.os/\OW s'.gens) s₁:=by
 have rv:=BD hi;have lenV:=hi.length;have core:∀H:Hp,ku H->aU K H a (ns.map V.int)->bU P w H s₁.heap->(∀b,H b≠none->b=a)->(H a≠none->K.lookup a=none) ->Qb (E_ P w) Qk (.call (.ref fa) ⟨[.ref a],[]⟩) (fun r s'=>r=.ok (.ret (.bool true))/\OldK s₁.heap s'.heap/\s'.os=s₁.os/\OW s'.gens) s₁:=by
  intro H hO hS hok hA hK;have base_of:∀{b:Addr}{o:Obj},s₁.heap.get? b=some o->H b=none->(dH s₁.heap H).get? b=some o:=fun e n=>HN e n;have noA:∀{b:Addr}{o:Obj}{es:Array DictEntry}{ep:Nat},s₁.heap.get? b=some o->o.data=.dict es ep->H b=none:=fun{b o es ep} e d=>by cases q:H b with
  |none=>rfl
  |some u=>have e':b=a:=hA b (by rw[q];simp);subst e';rw[ha]at e;cases e;have d':Data.seq vs.toArray _=Data.dict es ep:=d;cases d'
  have nsK:∀{b:Addr}{m:Str->Option b_},s₁.heap.Ns b m->(dH s₁.heap H).Ns b m:=fun{b m} ⟨o,es,ep,e,d,r⟩=>⟨o,es,ep,base_of e (noA e d),d,r⟩
  have hKb:K.In (dH s₁.heap H):=fun b o e=>base_of (KX b o e) (by cases q:H b with
  |none=>rfl
  |some u=>have e':b=a:=hA b (by rw[q];simp);subst e';rw[hK (by rw[q];simp)]at e;cases e)
  have hM:Mod K mg (dH s₁.heap H):=⟨hKb,nsK hns,⟨mb,nsK hb,hbb⟩,let⟨mc,h1,h2⟩:=hlim;⟨mc,nsK h1,h2⟩⟩
  have e0:Env0 P w K mg (dH s₁.heap H) Qk [] s₁ H:=⟨rfl,hM,fun b o e=>GL e,OK (JI _ _),trivial,fun b hb=>absurd (show b∈([]:List Addr)from hb) (by simp),hok,.of_eq hg⟩
  refine Qc ((F _ hKb (nsK hns)).run Qk [] s₁ H ⟨[.ref a],[]⟩ [.ref a] [.ref a] _ _ hr e0 (hbind s₁ (.ref a)) (.cons rfl .nil) (hsp H hO hS)) fun r s' h=>?_;cases r with
 |error e=>exact(hCX H e s' h).elim
 |ok fl=>cases fl with
  |next=>exact MY h
  |brk=>exact MY h
  |cont=>exact MY h
  |ret u=>obtain⟨v,H',os,bare,un,hok',r',q⟩:=h;have q':v=.bl true:=q;subst q';obtain rfl:u=Value.bool true:=r';refine⟨rfl,OldK.of_keep fun b o e=>?_,os,bare⟩;cases q:H b with
   |none=>exact un.keep b o e q (by intro z;exact absurd (show b∈([]:List Addr)from z) (by simp)) (by simp)
   |some u=>
     rcases hO b with z|⟨ob,xs,z⟩
     .rw[q]at z;cases z
     .have z2:=un.frzs b ob _ z;obtain⟨e1,_⟩:=hok b _ z;obtain⟨e2,_⟩:=hok' b _ z2;rw[e]at e1;cases e1;exact e2
 cases hk:K.lookup a with
|some o=>have e:=KX a o hk;rw[ha]at e;cases e;refine core (fun _=>none) (fun _=>.inl rfl) (.inr ⟨_,vs.toArray,_,hk,rfl,rfl,rfl,by rw[s_,lenV];exact hl,by simpa using rv⟩) (fun b u z=>by have z':(none:Option HO)=some u:=z;cases z') (fun b z=>absurd rfl z) fun z=>absurd rfl z
|none=>
  refine core (fun b=>if b=a then some (.frz { cls:=.type "list",data:=.seq vs.toArray } (.lst (ns.map V.int)))else none) (fun b=>?_) (.inl (.inr ⟨{ cls:=.type "list",data:=.seq vs.toArray },if_pos rfl⟩)) (fun b u z=>?_) (fun b z=>?_) fun _=>hk
  .by_cases hb:b=a
   .exact .inr ⟨_,_,if_pos hb⟩
   .exact .inl (if_neg hb)
  .by_cases hb:b=a
   .have z':=(if_pos hb).symm.trans z;cases z';subst hb;exact⟨ha,by rw[l_];exact hl,vs,_,rv,ha⟩
   .have z':=(if_neg hb).symm.trans z;cases z'
  .by_cases hb:b=a
   .exact hb
   .exact absurd (if_neg hb) z
abbrev az{K:W.Frag}{h:Heap}(_:K.In h):W.Frag:=K
theorem iC{l:W.OpenLaw}{n k:Nat}{q:D_}{loose:List Str}{XP:(Str->Option b_)->Heap->Prop}{YP:Mu->Heap->Prop}{d:DefRec}{K:Params->W.Frag}{CX:Mu->fE}{sp:Mu->Sp}{x:Str}(hn:l.most=some n)(hn2:n<=sizeLine)(hdf:d.params.defaults=[])(hr:Room k Qk)(hY:∀(w:Mu)(h:Heap),YP w h->(K w.params).In h)(F:∀(w:Mu)(mg:Str->Option b_)(fa:Addr)(h:Heap),(K w.params).In h->h.Ns My mg->mg d.name=some (.ref fa) ->∃fd:M5,(∀(s:g_)(u:b_),QO s fd ⟨[u],[]⟩ [(x,u)]) /\∀base:Heap,(K w.params).In base->base.Ns My mg->FnOk l.prog w (K w.params) mg base (CX w) k fa fd [x] (sp w))(hsp:∀(w:Mu)(H:Hp)(a:Addr)(ns:List Int),ns.length<=n->ku H->aU (K w.params) H a (ns.map V.int)->sp w [.ref a] H (fun v _=>v=.bl true) fun _ _ _=>False)(hCX:∀(w:Mu)(H:Hp)(s:g_)(e:b_)(s':g_),CX w [] H s (fun _ _ _=>False) e s'->False):W.WalkO q loose XP YP l.row.toRowW d [] (fun f vs=>R5 f vs):=by refine Att.attach_call hn hdf fun w s₀ s₁ mg mb fa o pm cd doc a vs ns G Y ho hd hcd hmg hobj hints hlen hg=>?_;have KX:=hY w _ Y;obtain⟨fd,hb,hF⟩:=F w mg fa _ KX G.T.g hmg;exact HU KX G.T.g G.T.b G.T.builtins G.T.nolimit hg hobj hints (MI hlen hn2) hr hF hb (fun H hO hS=>hsp w H a ns hlen hO hS) fun H e s'=>hCX w H s₁ e s'
def fA(s:Stmt):Arguments:=match s with
|.FunctionDef _ a _ _ _ _ _ _ _ _=>a
|_=>{ posonlyargs:=[],args:=[],vararg:=none,kwonlyargs:=[],kw_defaults:=[],kwarg:=none,defaults:=[] }
def c8(s:Stmt):List Stmt:=match s with
|.FunctionDef _ _ b _ _ _ _ _ _ _=>b
|_=>[]
def ar(s:Stmt):Oe:=match s with
|.FunctionDef _ _ _ _ _ _ sc _ _ _=>sc
|_=>{ kind:=.function,names:=[],isGenerator:=false,isCoroutine:=false }
abbrev bR:fE:=fun _ _ _ _ _ _=>False
abbrev E0:XK:=fun _ _ _=>False
theorem xH{X:Cx}:qQ bR X E0:=fun _ _ _ _ _ _ _ h=>h.elim
structure Fun(K:W.Frag)(x qual:Str)(st:Stmt)(f:Addr)(fd:M5):Prop where
 ex:∃(oc:b_)(od:Option Addr)(kV doc pm:b_)(an:Option Addr)(cdv ct:b_)(osl:Array (Option b_)),fd=W.fnOf x qual (fA st) (c8 st) (ar st) .none kV doc pm an cdv ct/\K.lookup f=some ⟨oc,od,.func fd,osl⟩/\W.codeIn K cdv qual=true
 kp:W.keepIn K (.ref f)=true
section
variable{P:D_}{w:Mu}{K:W.Frag}{mg:Str->Option b_}{base:Heap}
theorem Fun.ok{x qual:Str}{st:Stmt}{f:Addr}{fd:M5}{N ps:List Str}{k:Nat}{sp:Sp}(F:Fun K x qual st f fd)(S:FnScope N ps (ar st))(len:∀vs H Q E,sp vs H Q E->vs.length=ps.length)(hbody:∀(cdv:b_)(A:Mw)(outer:List Env)(s:g_)(H:Hp)(vs:List V)(Q:VK)(E:XK),Room k (A.deeper (Ot qual (ar st) s.heap.objs.size f cdv))->sp vs H Q E ->∃t,c6 (aQ bR P w K mg base N qual (ar st) f cdv A outer s H E).nox (c8 st) t/\t { nx:=fun _ H'=>Q .non H',rt:=Q } (a7 N vs) H):FnOk P w K mg base bR (k+1) f fd ps sp:=by obtain⟨oc,od,kV,doc,pm,an,cdv,ct,osl,rfl,lk,hcd⟩:=F.ex;refine qv lk hcd S len fun A outer s H vs Q E hr hsp=>?_;obtain⟨t,h,q⟩:=hbody cdv A outer s H vs Q E hr hsp;exact⟨t,h.nox,q⟩
theorem Fun.binds{x qual:Str}{st:Stmt}{f:Addr}{fd:M5}{ps:List Str}(F:Fun K x qual st f fd)(h:∀(kV doc pm:b_)(an:Option Addr)(cdv ct:b_)(us:List b_),us.length=ps.length->Pg (W.fnOf x qual (fA st) (c8 st) (ar st) .none kV doc pm an cdv ct) ⟨us,[]⟩=pure (ps.zip us)):fq K fd ps []:=by obtain⟨oc,od,kV,doc,pm,an,cdv,ct,osl,rfl,lk,hcd⟩:=F.ex;exact .all (h kV doc pm an cdv ct)
theorem DG{x qual:Str}{st:Stmt}{f:Addr}{oc:b_}{od an:Option Addr}{osl:Array (Option b_)}{kV doc pm cdv ct:b_}(l:K.lookup f=some ⟨oc,od,.func (W.fnOf x qual (fA st) (c8 st) (ar st) .none kV doc pm an cdv ct),osl⟩)(c:W.codeIn K cdv qual=true)(k:W.keepIn K (.ref f)=true):Fun K x qual st f (W.fnOf x qual (fA st) (c8 st) (ar st) .none kV doc pm an cdv ct):=⟨⟨oc,od,kV,doc,pm,an,cdv,ct,osl,rfl,l,c⟩,k⟩
end
theorem fG{A:Mw}{k:Nat}(hr:Room k A):A.units+1<NN:=Pk (Nat.add_le_add_left (by decide:1<=64) _) hr.units
section
variable{X:Cx}
theorem JL:dw X (.builtin "len") (fun xs H Q=>∃a kvs,xs=[V.ref a]/\Rd H a (.dK kvs)/\Q (.int kvs.length) H):=by intro pz s σ H xs us Q I r h;obtain⟨a,kvs,rfl,ha,q⟩:=h;obtain⟨u,rfl,ru⟩:=fJ r;cases ru;exact C0 I ha fun t s' I'=>⟨.int kvs.length,H,I',⟨t,rfl⟩,q⟩
end
def Same(H H':Hp):Prop:=∀b o,H b=some o->H' b=some o
theorem Same.refl(H:Hp):Same H H:=fun _ _ h=>h
theorem Same.trans{H H1 H2:Hp}(a:Same H H1)(b:Same H1 H2):Same H H2:=fun c o h=>b c o (a c o h)
theorem Same.free{H H':Hp}(e:Same H H'){l:Addr}(h:H' l=Option.none):H l=Option.none:=by cases q:H l with
|none=>rfl
|some o=>rw[e l o q]at h;cases h
theorem Same.seq{K:W.Frag}{H H':Hp}{a:Addr}{xs:List V}(e:Same H H')(h:aU K H a xs):aU K H' a xs:=by
 rcases h with(h|⟨o,h⟩)|h
 .exact .inl (.inl (e _ _ h))
 .exact .inl (.inr ⟨o,e _ _ h⟩)
 .exact .inr h
end L2
end
namespace DL
open PySem
section
open PySem.SeqAt
open PySem.AutoSeq1 (wpAny_loadPart')
open PySem.MeetsSeq PySem.MeetsSeq2 PySem.MeetsSeq3
end
end DL
namespace DL
open PySem PyProof.Rows
end DL
namespace DL
open PySem PyProof.Rows PySem.W
def lS{α:Type}(c:Nat->Nat->Bool):KasT α->α
|.ret a=>a
|.ask i j k=>lS c (k (c i j))
inductive Asks(n:Nat){α:Type}(P:α->Prop):KasT α->Prop where
 |ret {a:α}:P a->Asks n P (.ret a)
 |ask {i j:Nat} {k:Bool->KasT α}:i<n->j<n->(∀b,Asks n P (k b))->Asks n P (.ask i j k)
theorem Asks.bind{n:Nat}{α β:Type}{P:α->Prop}{P':β->Prop}{t:KasT α}{f:α->KasT β}(h:Asks n P t)(hf:∀a,P a->Asks n P' (f a)):Asks n P' (t.bind f):=by induction h with
|ret h=>exact hf _ h
|ask h1 h2 _ ih=>exact .ask h1 h2 ih
theorem Asks.run{n:Nat}{α:Type}{P:α->Prop}{t:KasT α}(h:Asks n P t)(c:Nat->Nat->Bool):P (lS c t):=by induction h with
|ret h=>exact h
|ask _ _ _ ih=>exact ih _
theorem Asks.mono{n:Nat}{α:Type}{P P':α->Prop}{t:KasT α}(h:Asks n P t)(hp:∀a,P a->P' a):Asks n P' t:=by induction h with
|ret h=>exact .ret (hp _ h)
|ask h1 h2 _ ih=>exact .ask h1 h2 ih
theorem Jt{n:Nat}{α:Type}{P:α->Prop}{cmp:Nat->Nat->(Bool->g_->Prop)->g_->Prop}{c:Nat->Nat->Bool}{s:g_}(hc:∀i j C,i<n->j<n->C (c i j) s->cmp i j C s){Q:α->g_->Prop}{t:KasT α}(h:Asks n P t):Q (lS c t) s->t.kasWp cmp Q s:=by induction h with
|ret _=>exact fun q=>q
|ask h1 h2 _ ih=>exact fun q=>hc _ _ _ h1 h2 (ih _ q)
def c7(n:Nat)(p:Array Nat):Prop:=p.toList.Perm (a_ n)
theorem c7.bd{n:Nat}{p:Array Nat}(h:c7 n p)(hn:0<n)(k:Nat):p.getD k 0<n:=by
 by_cases hk:k<p.size
 .have e:p.getD k 0=p[k]:=by simp[Tv,hk]
  rw[e];exact k_.mp (h.mem_iff.mp (by simp))
 .have e:p.getD k 0=0:=by simp[Tv,hk]
  rw[e];exact hn
theorem c7.rev{n:Nat}{p:Array Nat}(h:c7 n p)(i j:Nat):c7 n (kas_rev p i j):=(Pl.mp (mirror_perm p i j ((j-i)/2))).trans h
theorem c7.bub{n:Nat}{p:Array Nat}(h:c7 n p)(i j:Nat):c7 n (bubble p i j):=(Pl.mp (bubble_perm p i j)).trans h
section
variable{n:Nat}(hn:0<n)
include hn
theorem sr{p:Array Nat}(h:c7 n p):∀f k,Asks n (fun _=>True) (kas_asc p f k)
|0,k=>.ret trivial
|f+1,k=>.ask (h.bd hn _) (h.bd hn _) fun b=>by cases b with
 |true=>rw[if_pos rfl];exact .ret trivial
 |false=>rw[if_neg i_];exact sr h f (k+1)
theorem pj:∀f (p:Array Nat) k q,c7 n p->Asks n (fun r=>c7 n r.1) (kas_desc f p k q)
|0,p,k,q,h=>.ret h
|f+1,p,k,q,h=>.ask (h.bd hn _) (h.bd hn _) fun b=>by cases b with
 |true=>
   rw[if_pos rfl];split
   .exact pj f _ _ _ (h.rev _ _)
   .exact pj f _ _ _ h
 |false=>rw[if_neg i_];refine .ask (h.bd hn _) (h.bd hn _) fun b=>?_;cases b with
  |true=>rw[if_pos rfl];exact .ret h
  |false=>rw[if_neg i_];exact pj f _ _ _ h
theorem Bg{p:Array Nat}(h:c7 n p)(a b:Nat):Asks n (fun r=>c7 n r.2) (kas_tail3 a b p):=Asks.bind (sr hn (h.rev 0 a) _ _) fun m _=>.ret (h.rev 0 a)
theorem B2{p:Array Nat}(h:c7 n p)(a b:Nat):Asks n (fun r=>c7 n r.2) (kas_descPart a b p):=by
 refine Asks.bind (pj hn _ p _ _ h) fun r hr=>?_;split
 .exact Bg hn (hr.rev _ _) _ _
 .exact Bg hn hr _ _
theorem JY{p:Array Nat}(h:c7 n p)(a:Nat):Asks n (fun r=>c7 n r.2) (kas_count a p):=by
 refine Asks.bind (sr hn h _ _) fun k _=>?_;split
 .exact .ret h
 .split
  .refine .ask (h.bd hn _) (h.bd hn _) fun b=>?_;cases b with
  |true=>rw[if_pos rfl];exact .ret h
  |false=>rw[if_neg i_];exact B2 hn (h.rev _ _) _ _
  .exact B2 hn h _ _
theorem sL{p:Array Nat}(h:c7 n p)(k:Nat):∀f l r,Asks n (fun _=>True) (kas_place p k f l r)
|0,l,r=>.ret trivial
|f+1,l,r=>by
  unfold kas_place;split
  .exact .ret trivial
  .refine .ask (h.bd hn _) (h.bd hn _) fun b=>?_;cases b with
  |true=>rw[if_pos rfl];exact sL h k f _ _
  |false=>rw[if_neg i_];exact sL h k f _ _
theorem Aq:∀f (p:Array Nat) k,c7 n p->Asks n (c7 n) (kas_bin f p k)
|0,p,k,h=>.ret h
|f+1,p,k,h=>Asks.bind (sL hn h k _ _ _) fun l _=>Aq f _ _ (h.bub _ _)
theorem Bf:Asks n (c7 n) (kas_sort n):=by
 refine Asks.bind (JY hn (p:=List.toArray (a_ n)) (by unfold c7;simp) n) fun r hr=>?_;split
 .exact Aq hn _ _ _ hr
 .exact .ret hr
end
def g6(n:Nat)(c:Nat->Nat->Bool):List Nat:=if n<2 then a_ n else(lS c (kas_sort n)).toList
theorem sO(n:Nat)(c:Nat->Nat->Bool):(g6 n c).Perm (a_ n):=by
 unfold g6;split
 .exact .refl _
 .exact(Bf (n:=n) (by omega)).run c
def gS:List Int->List Int->Bool
|[],[]=>false
|[],_::_=>true
|_::_,[]=>false
|x::xs,y::ys=>if x=y then gS xs ys else decide (x<y)
def fU(fin:Bool):List (List Int)->List (List Int)->Bool
|k::ks,l::ls=>if k=l then fU fin ks ls else gS k l
|_,_=>fin
def dg(ks ls:List (List Int)):Bool:=fU (decide (ks.length<ls.length)) ks ls
end DL
namespace DL
open PySem PyProof.Rows PySem.W PySem.Calls
section
variable{prog:D_}{w:Mu}{A:Mw}{E:b_->g_->Prop}{s:g_}
theorem Kz{a:Addr}{vs:List b_}{n:Nat}{P:PySem.Fin->g_->Prop}(ho:s.heap.get? a=some (PL "list" vs.toArray n))(h2:vs.length<2)(h:∀h' c,(∀b o,b≠a->s.heap.get? b=some o->h'.get? b=some o)->h'.get? a=some (PL "list" vs.toArray c)->P (.done (.ret .none)) { s with heap:=h' }):z_ (E_ prog w) A (Oy.«list.sort» ⟨[.ref a],[]⟩) P E s:=by
 have fits:vs.length<=sizeLine:=by rw[MU];omega
 have up:=fun(h:Heap)(f:Array b_->Array b_)=>O9 h a (NZ f);obtain⟨e1,ho1⟩:∃e1,(s.heap.update a (NZ fun _=>(#[]:Array b_))).get? a=some (PL "list" #[] e1):=⟨_,RN ho fun _=>#[]⟩
 rw[list_sort_plain];refine f_ (listItems_at ho rfl (f_ (listUpdate_at ho rfl ?_ (by rw[s_];exact fits) (MD _))));refine f_ (seqEpoch_at ho1 rfl (f_ (wpAny_newTuple (f_ (wpAny_newList (Nc ?_) (MD _))) (by show vs.length<=_;exact fits))))
 dsimp only
 have hlt:vs.toArray.size<2:=by rw[s_];exact h2
 rw[if_pos hlt,if_pos hlt];refine f_ (r_ ?_);have hrun:(pure ():StateT SortSt Sem Unit).run (R6 general' (vs.toArray.zip vs.toArray) #[] 7 none)=pure ((),R6 general' (vs.toArray.zip vs.toArray) #[] 7 none):=rfl;rw[hrun];refine f_ (r_ ?_)
 dsimp only
 have hout:(arrOf (R6 general' (vs.toArray.zip vs.toArray) #[] 7 none)).map (·.2)=vs.toArray:=by show((vs.toArray.zip vs.toArray).map (·.2))=vs.toArray;apply Tw;simp[List.map_snd_zip]
 rw[hout];have keep3:∀b o,(s.heap.update a (NZ fun _=>(#[]:Array b_))).get? b=some o->(((s.heap.update a (NZ fun _=>(#[]:Array b_))).push (PL "tuple" vs.toArray 0)).push (PL "list" #[] 0)).get? b=some o:=fun b o e=>m_ _ (m_ _ e);have ho3:=keep3 _ _ ho1;refine f_ (seqEpoch_at ho3 rfl (f_ (listUpdate_at ho3 rfl ?_ (MD _) (by rw[s_];exact Nat.le_succ_of_le fits))));simp only[bne_self_eq_false,Q2,if_false];refine r_ (h _ _ (fun b o hb e=>?_) (RN ho3 fun _=>vs.toArray));exact((up _ _).2 b hb).trans (keep3 b o (((up _ _).2 b hb).trans e))
theorem Ls{l:Addr}{vs:List b_}{Q:b_->g_->Prop}(hl:s.heap.IsList l vs.toArray)(h2:vs.length<2)(h:∀h' c D,(∀b o,s.heap.get? b=some o->h'.get? b=some o)->s.heap.objs.size<=D->h'.get? D=some (PL "list" vs.toArray c)->Q (.ref D) { s with heap:=h' }):z_ (E_ prog w) A (call (.builtin "sorted") [.ref l]) Q E s:=by
 refine Calls.call_function_entry kind_sorted plain_sorted entry_sorted (args_sorted1 _) ?_;unfold Oy.«sorted»;refine f_ (m:=checkCount "sorted" 1 1 _) (r_ (f_ (collect_list hl ?_ (by rw[MU];omega))));refine f_ (wpAny_newList ?_ (by rw[MU];omega));generalize hH:((s.heap.push (PL "list" #[] 0)).update s.heap.objs.size (NZ (·++vs.toArray)))=H1;have hsz:H1.objs.size=s.heap.objs.size+1:=by rw[<-hH,Heap.size_update,size_push']
 have keep:∀b o,s.heap.get? b=some o->(H1.push (PL "list" vs.toArray 0)).get? b=some o:=fun b o q=>by have hlt:b<s.heap.objs.size:=t_ q;refine m_ _ ?_;rw[<-hH,Nj _ _ _ _ (Mv hlt)];exact m_ _ q
 have hoL:(H1.push (PL "list" vs.toArray 0)).get? H1.objs.size=some (PL "list" vs.toArray 0):=B_ _ rfl;refine f_ (Nc (Oo slot_list_sort ⟨_,hoL,rfl⟩ entry_list_sort ?_ (args_list_sort _)));refine Kz (s:={ s with heap:=H1.push (PL "list" vs.toArray 0) }) hoL h2 fun h' c kp hD=>?_;refine⟨_,rfl,r_ ⟨_,rfl,h h' c _ (fun b o e=>kp b o ?_ (keep b o e)) (by rw[hsz];exact RJ _) hD⟩⟩;rw[hsz];exact Mv (Rj (t_ e))
end
end DL
namespace DL
open PySem PySem.Spec PyProof.Rows L2 PySem.W PySem.Calls
structure Lft(fr:List Addr)(a:Addr)(oe:Obj)(vs:Array b_)(T:Option Addr)(v:b_)(h h':Heap):Prop where
 keep:∀b o,b∉fr->b≠a->T≠some b->h.get? b=some o->h'.get? b=some o
 slot:∀b o,h.get? b=some o->(∀vs:Array b_,o.data≠Data.fields vs)->∃sl,h'.get? b=some { cls:=o.cls,dict:=o.dict,data:=o.data,slots:=sl }
 obj:∃tb ot ts,(h.get? tb=none\/T=some tb)/\tb≠a/\h'.get? a=some { cls:=oe.cls,dict:=oe.dict,data:=.fields (vs.setIfInBounds 1 (.ref tb)),slots:=oe.slots }/\h'.get? tb=some ot/\ot.data=.fields ts/\ts[3]? = some v
def n8(a:Addr)(h:Heap):Prop:=∃oe vs tb,h.get? a=some oe/\oe.data=Data.fields vs/\vs[1]? = some (Value.ref tb)
abbrev km(fl:Option Addr):b_:=fl.elim Value.none fun f=>PK f
section
variable{M:RF}{A:Mw}{E:b_->g_->Prop}{s:g_}{B:Heap}{env:Env}{outer:List Env}{L a:Addr}{oe:Obj}{vs:Array b_}{Q:Unit->g_->Prop}
theorem zz{head:b_}{had:Bool}{fl:Option Addr}(hf:A.frames=some (env::outer))(ff:s.heap.FunFrames B (env::outer))(hL:env.frame=some L)(e0:s.heap.get? a=some oe)(hd:oe.data=.fields vs)(hs:1<vs.size)(q:∀h',Lft (bQ (env::outer)) a oe vs none (km fl) s.heap h'->Q () { heap:=h',gens:=s.gens,drawn:=s.drawn,toks:=s.toks,os:=s.os }) :
  z_ M A (do
   let f <-PySem.frameOf env;let pl <-entryPlaceOf L had;let b <-QR head f Value.none (PK ↑L) Value.none pl
   setField (Value.ref a) 1 b) (fun _ s'=>n8 a s'.heap/\z_ M A (N9 (Value.ref a) fl) Q E s') E s:=by
 have haf:a∉bQ (env::outer):=fun z=>by obtain⟨_,o,e1,nf⟩:=ff.mem z;rw[e0]at e1;cases e1;exact nf vs hd
 refine f_ (wpAny_frameOf_fun hf ff hL fun h2 so=>?_);refine f_ (wpAny_entryPlaceOf fun pl hpl=>?_);obtain⟨so1,so2,so3⟩:=so;have e2:h2.get? a=some oe:=(so2 a haf).trans e0;have key:∀fs:List b_,fs.length<=100->fs[3]? = some (PK ↑L)->z_ M A ((do
   let b <-newFields "traceback" fs
   setField (Value.ref a) 1 b)) (fun _ s'=>n8 a s'.heap/\z_ M A (N9 (Value.ref a) fl) Q E s') E { heap:=h2,gens:=s.gens,drawn:=s.drawn,toks:=s.toks,os:=s.os }:=fun fs hlen h3=>by
  refine f_ ?_;unfold newFields;have hsz:sizeOk (Data.fields fs.toArray):=by
   show fs.toArray.size<=_;have:fs.toArray.size<=100:=by simpa using hlen
   exact MI this (by decide)
  refine Nd (T := "traceback") (data:=.fields fs.toArray) (dict:=none) ?_ hsz;have hat:a<h2.objs.size:=t_ e2;have htb:h2.get? h2.objs.size=none:=by cases z:h2.get? h2.objs.size with
  |none=>rfl
  |some o=>exact absurd (t_ z) (MX _)
  have hne:h2.objs.size≠a:=fun z=>by rw[z]at hat;exact absurd hat (MX _)
  generalize htbn:h2.objs.size=tb at *;have e3:(h2.push { cls:=.type "traceback",dict:=none,data:=.fields fs.toArray }).get? a=some oe:=m_ _ e2;have e3t:(h2.push { cls:=.type "traceback",dict:=none,data:=.fields fs.toArray }).get? tb=some { cls:=.type "traceback",dict:=none,data:=.fields fs.toArray }:=by rw[<-htbn];exact B_ _ rfl
  generalize hh3:h2.push { cls:=.type "traceback",dict:=none,data:=.fields fs.toArray }=h3' at *;refine NS (a:=a) (o:=oe) (vs:=vs) (i:=1) e3 hd hs ?_;have mf:∀g,Mz g oe={ cls:=oe.cls,dict:=oe.dict,data:=.fields (g vs),slots:=oe.slots }:=fun g=>by obtain⟨c,d,da,sl⟩:=oe;have:da=.fields vs:=hd;subst this;rfl
  have e4:=M4 (h:=h3') (Mz fun v=>v.setIfInBounds 1 (.ref tb)) e3 (by rw[mf];rfl);rw[mf]at e4;have e4t:(h3'.update a (Mz fun v=>v.setIfInBounds 1 (.ref tb))).get? tb=some { cls:=.type "traceback",dict:=none,data:=.fields fs.toArray }:=by rw[Nj _ _ _ _ hne];exact e3t
  have e4o:∀b,b≠a->(h3'.update a (Mz fun v=>v.setIfInBounds 1 (.ref tb))).get? b=h3'.get? b:=fun b hb=>Nj _ _ _ _ hb;generalize h3'.update a (Mz fun v=>v.setIfInBounds 1 (.ref tb))=h4 at *;refine⟨⟨_,_,tb,e4,rfl,L_ hs⟩,?_⟩;unfold N9;refine f_ (M0 (o:={ cls:=oe.cls,dict:=oe.dict,data:=.fields (vs.setIfInBounds 1 (.ref tb)),slots:=oe.slots }) (x:=.ref tb) e4 rfl ?_ ?_)
  .rw[L_ hs]
  .rw[if_pos (by rfl)];refine NS (a:=tb) (vs:=fs.toArray) (i:=3) e4t rfl ?_ ?_
   .have:=(h_.mp h3).1;simpa using this
   have e5:=M4 (h:=h4) (Mz fun v=>v.setIfInBounds 3 (km fl)) e4t rfl;have e5o:∀b,b≠tb->(h4.update tb (Mz fun v=>v.setIfInBounds 3 (km fl))).get? b=h4.get? b:=fun b hb=>Nj _ _ _ _ hb;refine q (h4.update tb (Mz fun v=>v.setIfInBounds 3 (km fl))) ⟨fun b o nf ne _ e=>?_,fun b o e nf=>?_,tb,_,_,.inl ?_,hne,?_,e5,rfl,?_⟩
   .have hb2:h2.get? b=some o:=(so2 b nf).trans e;have hbt:b≠tb:=fun z=>by rw[z,htb]at hb2;cases hb2
    rw[e5o b hbt,e4o b ne,<-hh3];exact m_ _ hb2
   .obtain⟨sl,e1⟩:=so3 b o e;have hbt:b≠tb:=fun z=>by rw[z,htb]at e1;cases e1
    have hba:b≠a:=fun z=>by rw[z,e0]at e;cases e;exact nf vs hd
    refine⟨sl,?_⟩;rw[e5o b hbt,e4o b hba,<-hh3];exact m_ _ e1
   .cases z:s.heap.get? tb with
   |none=>rfl
   |some o=>obtain⟨sl,e1⟩:=so3 tb o z;rw[htb]at e1;cases e1
   .rw[e5o a (NO hne)];exact e4
   .show(fs.toArray.setIfInBounds 3 _)[3]? = _;rw[L_ (by have:=(h_.mp h3).1;simpa using this)]
 unfold QR;refine key _ ?_ rfl;rcases hpl with rfl|⟨x1,x2,x3,x4,x5,x6,_,rfl⟩ <;> simp
theorem oV{T fl:Option Addr}(hf:A.frames=some (env::outer))(ff:s.heap.FunFrames B (env::outer))(hL:env.frame=some L)(e0:s.heap.get? a=some oe)(hd:oe.data=.fields vs)(h1:(vs[1]? = some Value.none/\T=none)\/(∃T' oT ts,T=some T'/\vs[1]? = some (.ref T')/\T'≠a/\s.heap.get? T'=some oT/\oT.data=.fields ts/\ts[3]? = some Value.none)\/∃T' oT ts,T=some T'/\vs[1]? = some (.ref T')/\T'≠a/\s.heap.get? T'=some oT/\oT.data=.fields ts/\ts[3]? = some (PK ↑L))(q:∀h',Lft (bQ (env::outer)) a oe vs T (km fl) s.heap h'->Q () { heap:=h',gens:=s.gens,drawn:=s.drawn,toks:=s.toks,os:=s.os }):z_ M A (OT (.ref a) env) (fun _ s'=>n8 a s'.heap/\z_ M A (N9 (.ref a) fl) Q E s') E s:=by
 have hs:1<vs.size:=by rcases h1 with⟨z,_⟩|⟨_,_,_,_,z,_⟩|⟨_,_,_,_,z,_⟩ <;> exact(MV.mp z).1
 unfold OT;simp only[hL];rcases h1 with⟨z,rfl⟩|⟨T',oT,ts,rfl,z,hTa,eT,hT,h3⟩|⟨T',oT,ts,rfl,z,hTa,eT,hT,h3⟩
 .refine f_ (M0 e0 hd z ?_);rw[if_neg (by decide)];exact zz hf ff hL e0 hd hs q
 .refine f_ (M0 e0 hd z ?_);rw[if_pos (by rfl)];refine f_ (M0 eT hT h3 ?_);rw[if_neg (by intro z;cases z)];have h3s:3<ts.size:=(MV.mp h3).1;refine f_ (NS eT hT h3s ?_);have eo:∀b,b≠T'->(s.heap.update T' (Mz fun v=>v.setIfInBounds 3 Value.none)).get? b=s.heap.get? b:=fun b hb=>Nj _ _ _ _ hb;refine zz (s:={ heap:=s.heap.update T' (Mz fun v=>v.setIfInBounds 3 Value.none),gens:=s.gens,drawn:=s.drawn,toks:=s.toks,os:=s.os }) hf (ff.of_keeps fun b o e nf=>?_) hL ((eo a (NO hTa)).trans e0) hd hs fun h' l=>q h' ⟨fun b o nf ne hT' e=>?_,fun b o e nf=>?_,?_⟩
  .have hb:b≠T':=fun z=>by rw[z,eT]at e;cases e;exact nf ts hT
   exact⟨o,(eo b hb).trans e,rfl⟩
  .have hb:b≠T':=fun z=>hT' (by rw[z]);exact l.keep b o nf ne (by simp) ((eo b hb).trans e)
  .have hb:b≠T':=fun z=>by rw[z,eT]at e;cases e;exact nf ts hT
   exact l.slot b o ((eo b hb).trans e) nf
  .obtain⟨tb,ot,ts',t1,t2⟩:=l.obj;refine⟨tb,ot,ts',.inl ?_,t2⟩;have t1:=t1.resolve_right (by simp);by_cases hb:tb=T'
   .have mf:Mz (fun v=>v.setIfInBounds 3 Value.none) oT={ cls:=oT.cls,dict:=oT.dict,data:=.fields (ts.setIfInBounds 3 Value.none),slots:=oT.slots }:=by obtain⟨c,d,da,sl⟩:=oT;have:da=.fields ts:=hT;subst this;rfl
    have:=M4 (h:=s.heap) (Mz fun v=>v.setIfInBounds 3 Value.none) eT (by rw[mf];rfl);rw[hb]at t1;exact absurd (t1.symm.trans this) (by simp)
   .exact(eo tb hb).symm.trans t1
 .refine f_ (M0 e0 hd z ?_);rw[if_pos (by rfl)];refine f_ (M0 eT hT h3 ?_);rw[if_pos (by simp)];refine r_ ⟨⟨oe,vs,T',e0,hd,z⟩,?_⟩;have h3s:3<ts.size:=(MV.mp h3).1;have mf:∀g,Mz g oT={ cls:=oT.cls,dict:=oT.dict,data:=.fields (g ts),slots:=oT.slots }:=fun g=>by obtain⟨c,d,da,sl⟩:=oT;have:da=.fields ts:=hT;subst this;rfl
  unfold N9;refine f_ (M0 e0 hd z ?_);rw[if_pos (by rfl)];refine NS eT hT h3s ?_;have eo:∀b,b≠T'->(s.heap.update T' (Mz fun v=>v.setIfInBounds 3 (km fl))).get? b=s.heap.get? b:=fun b hb=>Nj _ _ _ _ hb;have es:=M4 (h:=s.heap) (Mz fun v=>v.setIfInBounds 3 (km fl)) eT (by rw[mf];rfl);rw[mf]at es;refine q _ ⟨fun b o nf ne hT' e=>(eo b fun z=>hT' (by rw[z])).trans e,fun b o e nf=>?_,T',_,_,.inr rfl,hTa,?_,es,rfl,?_⟩
  .have hb:b≠T':=fun z=>by rw[z,eT]at e;cases e;exact nf ts hT
   exact⟨o.slots,(eo b hb).trans e⟩
  .rw[eo a (NO hTa),e0];obtain⟨c,d,da,sl⟩:=oe;have:da=.fields vs:=hd;subst this;have:vs.setIfInBounds 1 (.ref T')=vs:=by
    apply Q3;intro i;rw[Array.getElem?_setIfInBounds];split
    .rename_i h;subst h;exact z.symm
    .rfl
   rw[this]
  .show(ts.setIfInBounds 3 _)[3]? = _;rw[L_ h3s]
theorem sw{T:Option Addr}(hf:A.frames=some (env::outer))(ff:s.heap.FunFrames B (env::outer))(hL:env.frame=some L)(e0:s.heap.get? a=some oe)(hd:oe.data=.fields vs)(h1:(vs[1]? = some Value.none/\T=none)\/(∃T' oT ts,T=some T'/\vs[1]? = some (.ref T')/\T'≠a/\s.heap.get? T'=some oT/\oT.data=.fields ts/\ts[3]? = some Value.none)\/∃T' oT ts,T=some T'/\vs[1]? = some (.ref T')/\T'≠a/\s.heap.get? T'=some oT/\oT.data=.fields ts/\ts[3]? = some (PK ↑L))(q:∀h',Lft (bQ (env::outer)) a oe vs T Value.none s.heap h'->Q () { heap:=h',gens:=s.gens,drawn:=s.drawn,toks:=s.toks,os:=s.os }):z_ M A (leaving env (.ref a)) Q E s:=f_ (MS (oV (fl:=none) hf ff hL e0 hd h1 q) (fun _ _ z=>z.2) fun _ _ z=>z)
end
def Du(h B:Heap)(a:Addr)(cls:b_)(od L:Option Addr):Prop:=∃oe vs,h.get? a=some oe/\oe.cls=cls/\(∀dx,od=some dx->oe.dict=some dx)/\oe.data=.fields vs /\(vs[1]? = some Value.none\/(∃T oT ts,vs[1]? = some (.ref T)/\B.get? T=none/\T≠a/\h.get? T=some oT/\oT.data=.fields ts/\ts[3]? = some Value.none) \/∃l T oT ts,L=some l/\vs[1]? = some (.ref T)/\B.get? T=none/\T≠a/\h.get? T=some oT/\oT.data=.fields ts/\ts[3]? = some (PK ↑l))
def jZ(st:List Env):Option Addr:=st.head?.bind (·.frame)
structure Fly(P:D_)(w:Mu)(st:List Env)(H:Hp)(s:g_)(H':Hp)(a:Addr)(cls:b_)(od:Option Addr)(s':g_):Prop where
 os:s'.os=s.os
 bare:OW s'.gens
 un:Un (bQ st) [] H H' s.heap s'.heap
 hok:bU P w H' s'.heap
 ex:∃B:Heap,B.StaysIn s'.heap/\B.get? a=none/\s'.heap.FunFrames B st/\Du s'.heap B a cls od (jZ st) /\(∀b o,s.heap.get? b=some o->b∉bQ st->∃o',B.get? b=some o')/\∀b u,H' b=some u->∃o',B.get? b=some o'
section
variable{X:Cx}{pz:List (Addr×Obj)}{σ:L2.St}{H H':Hp}{s s':g_}{a:Addr}{cls:b_}{od:Option Addr}{M:RF}{E:b_->g_->Prop}
theorem Fly.inv(F:Fly X.prog X.w X.stack H s H' a cls od s')(I:Inv X pz σ H s):Inv X pz σ H' s':=I.call' F.os F.un F.hok F.bare fun b z=>absurd z (by simp)
theorem Fly.leaves{Q:Unit->g_->Prop}(F:Fly X.prog X.w X.stack H s H' a cls od s')(I:Inv X pz σ H s)(hst:X.stack=X.env::X.outer)(hfr:X.env.frame=some X.env.locals)(hex:X.ex=[])(q:∀s'',Fly X.prog X.w X.outer X.H₀ X.s₀ H' a cls od s''->Q () s''):z_ M X.A (leaving X.env (.ref a)) Q E s':=by
 have I':=F.inv I;obtain⟨B,hB,hBa,hff,⟨oe,vs,r1,r2,r3,r4,r5⟩,hd,hH⟩:=F.ex;have hfs:bQ X.stack=X.env.locals::bQ X.outer:=by rw[hst];unfold bQ;rw[Nh,hfr]
 have inB:∀b o,X.s₀.heap.get? b=some o->b∉bQ X.outer->∃o',B.get? b=some o':=fun b o e n=>by
  obtain⟨o1,e1⟩:=I.base.there b o e (by rw[hex];simp);refine hd b o1 e1 ?_;rw[hfs];intro z;rcases p_.mp z with z|z
  .have h1:=t_ e;have h2:=I.ok.above;rw[z]at h1;exact absurd h1 (Nat.not_lt.mpr h2)
  .exact n z
 rw[hst]at hff;have fin:∀(T:Option Addr) h',(∀b,T=some b->B.get? b=none)->Lft (bQ (X.env::X.outer)) a oe vs T Value.none s'.heap h'->Q () { heap:=h',gens:=s'.gens,drawn:=s'.drawn,toks:=s'.toks,os:=s'.os }:=fun T h' hT l=>by
  have same:∀b o,(∃o',B.get? b=some o')->s'.heap.get? b=some o->h'.get? b=some o:=fun b o ⟨o',e⟩ h=>by refine l.keep b o (fun z=>?_) (fun z=>by rw[z,hBa]at e;cases e) (fun z=>by rw[hT b z]at e;cases e) h;rw[(hff.mem z).1]at e;cases e
  have hso:=(show X.env.scope.kind≠ScopeKind.module/\(∃L o,X.env.frame=some L/\B.get? L=none/\s'.heap.get? L=some o/\∀(vs:Array b_),o.data≠Data.fields vs)/\s'.heap.FunFrames B X.outer by unfold QD at hff;exact hff).2.2;have ho:h'.FunFrames B X.outer:=hso.of_keeps fun b o e nf=>by obtain⟨sl,e1⟩:=l.slot b o e nf;exact⟨_,e1,rfl⟩
  obtain⟨tb,ot,ts,t1,t2,t3,t4,t5,t6⟩:=l.obj;have htB:B.get? tb=none:=by
   rcases t1 with t1|t1
   .cases z:B.get? tb with
   |none=>rfl
   |some o=>have:=hB tb o z;rw[t1]at this;cases this
   .exact hT tb t1
  have hs1:1<vs.size:=by rcases r5 with z|⟨_,_,_,z,_⟩|⟨_,_,_,_,_,z,_⟩ <;> exact(MV.mp z).1
  refine q _ ⟨I'.os,F.bare,⟨fun b o e n f z=>?_,fun b o e n f z=>?_,fun b o e n z=>?_,fun b o e z=>?_,I'.base.tups,I'.base.frzs,I'.base.tbls⟩,fun b u e=>?_,B,fun b o e=>same b o ⟨o,e⟩ (hB b o e),hBa,ho,⟨_,_,t3,r2,r3,rfl,.inr (.inl ⟨tb,ot,ts,L_ hs1,htB,t2,t4,t5,t6⟩)⟩,inB,hH⟩
  .exact same b o (inB b o e f) (I'.base.keep b o e n f (by rw[hex];exact z))
  .obtain⟨sl,e1⟩:=I'.base.slot b o e n f (by rw[hex];exact z);obtain⟨_,o2,e2,nf⟩:=hso.mem f;rw[e1]at e2;cases e2;obtain⟨sl2,e3⟩:=l.slot b _ e1 nf;exact⟨sl2,e3⟩
  .exact I'.base.free b o e n (by rw[hex];exact z)
  .obtain⟨o1,e1⟩:=I'.base.there b o e (by rw[hex];exact z);by_cases f:b∈bQ X.outer
   .obtain⟨_,o2,e2,nf⟩:=hso.mem f;obtain⟨sl,e3⟩:=l.slot b _ e2 nf;exact⟨_,e3⟩
   .exact⟨o1,same b o1 (inB b o e f) e1⟩
  .refine(F.hok b u e).stay (fun c v hc e1=>same c v ?_ e1) (fun _ z=>z) fun _ _ z=>z;rcases hc with hc|hc
   .rw[hc];exact hH b u e
   .exact hH c _ hc
 rcases r5 with z|⟨T,oT,ts,z1,z2,z3,z4,z5,z6⟩|⟨l,T,oT,ts,zl,z1,z2,z3,z4,z5,z6⟩
 .exact sw (T:=none) (by rw[I.ok.frames,hst]) hff hfr r1 r4 (.inl ⟨z,rfl⟩) fun h' l=>fin none h' (fun b e=>nomatch e) l
 .exact sw (T:=some T) (by rw[I.ok.frames,hst]) hff hfr r1 r4 (.inr (.inl ⟨T,oT,ts,rfl,z1,z3,z4,z5,z6⟩)) fun h' l=>fin (some T) h' (fun b e=>by cases e;exact z2) l
 .have hl:l=X.env.locals:=by unfold jZ at zl;rw[hst]at zl;exact(C_ (hfr.symm.trans (show X.env.frame=some l from zl))).symm
  subst hl;exact sw (T:=some T) (by rw[I.ok.frames,hst]) hff hfr r1 r4 (.inr (.inr ⟨T,oT,ts,rfl,z1,z3,z4,z5,z6⟩)) fun h' l=>fin (some T) h' (fun b e=>by cases e;exact z2) l
end
def kA(P:D_)(w:Mu):fE:=fun outer H s E e s'=>∃a cls H' od,e=.ref a/\Fly P w outer H s H' a cls od s'/\E cls od H'
theorem EY{P:D_}{w:Mu}{H:Hp}{h:Heap}{a:Addr}{o:HO}(x:bj P w H h a o):∃u,h.get? a=some u:=by cases o with
|lst xs=>obtain⟨_,_,_,_,e⟩:=x;exact⟨_,e⟩
|tup xs=>obtain⟨_,_,_,_,o,e,_⟩:=x;exact⟨_,e⟩
|dK kvs=>obtain⟨_,_,_,_,o,_,_,e,_⟩:=x;exact⟨_,e⟩
|dT kvs=>obtain⟨_,_,_,_,o,_,_,e,_⟩:=x;exact⟨_,e⟩
|set S n=>obtain⟨o,_,_,_,e,_⟩:=x;exact⟨_,e⟩
|ins C dx fs=>obtain⟨_,_,_,e,_⟩:=x;exact⟨_,e⟩
|own y=>exact x
|xd fs=>obtain⟨_,⟨_,_,_,e,_⟩,_⟩:=x;exact⟨_,e⟩
|rng lo hi=>obtain⟨_,_,_,e⟩:=x;exact⟨_,e⟩
|frz ob u=>obtain⟨e,_⟩:=x;exact⟨_,e⟩
|tbl ps=>exact⟨_,(show h.get? a=some _ from x)⟩
|met f y=>exact⟨_,(show h.get? a=some _ from x)⟩
|ext φ=>exact x.2.1
abbrev iD:List b_:=[Value.type "ValueError",Value.type "Exception",Value.type "BaseException",Value.type "object"]
theorem Iz{h:Heap}{bmB bm:List b_}{v:b_}(t:OwnTail h bmB bm)(hb:bmB.contains v=true):bm.contains v=true:=by induction t with
|base=>exact hb
|own _ _ _ _ ih=>rw[OC,ih,Ql]
theorem GW{K:W.Frag}{h:Heap}{C:Addr}{bmB:List b_}{newId:String}(k:K.In h)(e:excIn K C bmB newId=true):∃bm N nm q bs hdct sn sub ab col dd k0 k1 k2 k3 k5 mN,h.get? C=some (NG nm q C N bs bm hdct sn sub ab col dd k0 k1 k2 k3 k5 newId)/\h.Ns N mN/\mN (F_ "__init__")=none/\OwnTail h bmB bm:=by
 unfold excIn at e;split at e
 .rename_i dict cd sl hk;split at e
  .rename_i C' bm k0 k1 k2 k3 n k5 hm hs;simp only[I_,beq_iff_eq,OO]at e;obtain⟨⟨⟨⟨⟨rfl,rfl⟩,hd⟩,ht⟩,hn⟩,hi⟩:=e;have hns:=isNs_of_in k hn;obtain⟨nm,bs,mro,ns,q,hdct,sn,sub,ab,col,hdel⟩:=cd;have e1:mro=Value.ref C'::bm:=hm;have e2:hdel=false:=hd;subst e1 e2;have e3:sl = #[k0,k1,k2,k3,some (Value.builtin n),k5]:=by cases sl with
   |mk l=>exact congrArg Array.mk hs
   subst e3;exact⟨bm,ns,nm,q,bs,hdct,sn,sub,ab,col,dict,k0,k1,k2,k3,k5,h.nsMap ns,k _ _ hk,Heap.Ns.of_isNs hns,nsMap_none_of_in k hn hi,tail_of_in k ht⟩
  .cases e
 .cases e
structure XC(K:W.Frag)(mg:Str->Option b_)(x:Str)(C:Addr):Prop where
 bound:mg x=some (.ref C)
 exc:excIn K C iD "ValueError.__new__" = true
section
variable{X:Cx}{pz:List (Addr×Obj)}{σ:L2.St}{H:Hp}{s:g_}{x:Str}{C:Addr}{np cpos pos:Pos}{e₀:Expr}{rest:List Expr}{t:TA}
theorem Fly.made{h':Heap}{e:Addr}{cls:b_}{vs:List b_}(I:Inv X pz σ H s)(m:s.heap.MadeExcOf h' e cls vs):Fly X.prog X.w X.stack H s H e cls none { heap:=h',gens:=s.gens,drawn:=s.drawn,toks:=s.toks,os:=s.os }:=by
 obtain⟨t,m1,m2,m3⟩:=m.there;have hst:∀b o,(Tf s.heap (bQ X.stack)).get? b=some o->h'.get? b=some o:=fun b o e=>m.keeps b o (of_hideAll _ e);refine⟨rfl,I.bare,Un.kept m.keeps,I.hok.kept m.keeps,Tf s.heap (bQ X.stack),hst,?_,?_,⟨_,_,m1,rfl,(fun _ e=>nomatch e),rfl,.inl rfl⟩,fun b o e n=>⟨o,hideAll_get _ e n⟩,fun b u e=>?_⟩
 .cases q:(Tf s.heap (bQ X.stack)).get? e with
 |none=>rfl
 |some o=>have:=of_hideAll _ q;rw[m.new]at this;cases this
 .have ff:=I.stack;have key:∀l:List Env,(∀b∈bQ l,b∈bQ X.stack)->s.heap.FunFrames X.base l->h'.FunFrames (Tf s.heap (bQ X.stack)) l:=by
   intro l
   induction l with
  |nil=>intro _ _;unfold QD;trivial
  |cons env l ih=>
    intro hs hf;unfold QD at hf ⊢;obtain⟨f1,⟨L,o,f2,f3,f4,f5⟩,f6⟩:=hf;refine⟨f1,⟨L,o,f2,hideAll_none _ (hs L ?_),m.keeps _ _ f4,f5⟩,ih (fun b hb=>hs b ?_) f6⟩
    .unfold bQ;rw[Nh,f2];exact e_
    .unfold bQ;rw[Nh,f2];exact c_ _ hb
  exact key X.stack (fun _ hb=>hb) ff
 .obtain⟨o,eo⟩:=EY (I.hok b u e);exact⟨o,hideAll_get _ eo fun z=>by rw[I.stkFree b z]at e;cases e⟩
theorem Ja{Q:Flow->g_->Prop}(I:Inv X pz σ H s)(hc:X.calm=true)(c:XC X.K X.mg x C)(hg:Gl X x)(ha:PA X (e₀::rest) t)(h:t σ H fun vs H1=>vs.length<=sizeLine/\∀s1 a s',Inv X pz σ H1 s1->Fly X.prog X.w X.stack H1 s1 H1 a (.ref C) none s'->X.xe (.ref a) s')(hdb:(x==("__debug__" : Str))=false:=by decide)(he:j_ (e₀::rest) X.env=(false,eval e₀ X.env)::j_ rest X.env:=by rfl)(hpl:(backTo cpos (j_ rest X.env)).any (·.1)=false:=by rfl):z_ (E_ X.prog X.w) X.A (exec (.Raise (some (.Call (.Name x np) (e₀::rest) [] cpos)) none pos) X.env) Q X.xe s:=by
 obtain⟨bm,N,nm,q,bs,hdct,sn,sub,ab,col,dd,k0,k1,k2,k3,k5,mN,c1,c2,c3,c4⟩:=GW I.ok.mod.kin c.exc;refine wpAny_Raise_call_subT (nm:=nm) (q:=q) (C:=C) (N:=N) (bs:=bs) (bm:=bm) (hdct:=hdct) (sn:=sn) (sub:=sub) (ab:=ab) (col:=col) (dd:=dd) (k0:=k0) (k1:=k1) (k2:=k2) (k3:=k3) (k5:=k5) (mN:=mN) F.excBase_ValueError (Iz c4 (by decide+kernel)) (I.ok.hd hc) ?_ c3 ?_
 .rw[he];exact hpl
 refine l7 I hg c.bound ⟨rfl,?_⟩ hdb;rw[he];refine evalArgs_plain ?_;have hp:=ha cpos pz s σ H _ I h;rw[he]at hp;refine aG hp fun us s1 ⟨vs,H1,I1,r,hl,q⟩=>⟨rfl,?_,I1.bk _ _ c1,?_,?_,fun h' e m=>q s1 e _ I1 (Fly.made I1 m)⟩
 .show us.length<=sizeLine;rw[<-r.length];exact hl
 .exact c2.keeps I1.bk
 .exact c4.keeps I1.bk
end
end DL
namespace DL
open PySem PySem.Spec PyProof.Rows L2
inductive D where
 |non|bl (b:Bool)|int (i:Int)|str (x:Str)
 |tup (ds:List D)|lst (ds:List D)
 |dic (kvs:List (au×D))
 |obj (c:Nat) (fs:List (Str×D))
instance:Inhabited D:=⟨.non⟩
inductive Res(α:Type) where
 |ok (a:α)|exc (x:D)|stuck
def Res.bind{α β:Type}(r:Res α)(f:α->Res β):Res β:=match r with
|.ok a=>f a
|.exc x=>.exc x
|.stuck=>.stuck
@[simp] theorem bind_ok{α β:Type}(a:α)(f:α->Res β):(Res.ok a).bind f=f a:=rfl
@[simp] theorem bind_exc{α β:Type}(x:D)(f:α->Res β):(Res.exc x:Res α).bind f=.exc x:=rfl
@[simp] theorem bind_stuck{α β:Type}(f:α->Res β):(Res.stuck:Res α).bind f=.stuck:=rfl
def fin{α:Type}(r:Res α)(q:α->Prop)(x:D->Prop):Prop:=match r with
|.ok a=>q a
|.exc e=>x e
|.stuck=>False
theorem aW{α:Type}{r:Res α}{q q':α->Prop}{x:D->Prop}(h:fin r q x)(hq:∀a,q a->q' a):fin r q' x:=by cases r with
|ok a=>exact hq a h
|exc e=>exact h
|stuck=>exact h
theorem aY{α β:Type}{r:Res α}{f:α->Res β}{q:β->Prop}{x:D->Prop}(h:fin (r.bind f) q x):fin r (fun a=>fin (f a) q x) x:=by cases r with
|ok a=>exact h
|exc e=>exact h
|stuck=>exact h
abbrev GH:=Addr->Option D
inductive Scl:V->D->Prop where
 |non:Scl .non .non
 |bl (b:Bool):Scl (.bl b) (.bl b)
 |int (i:Int):Scl (.int i) (.int i)
 |str (x:Str):Scl (.str x) (.str x)
inductive KC(K:W.Frag)(a:Addr):D->Prop where
|lst {xs:List V} {ds:List D}:aU K (fun _=>none) a xs->Paired Scl xs ds->KC K a (.lst ds)
|tup {xs:List V} {ds:List D}:bI K (fun _=>none) a xs->Paired Scl xs ds->(∃o,K.lookup a=some o/\o.cls=.type "tuple"/\o.dict=none)->KC K a (.tup ds)
inductive RG(K:W.Frag)(G:GH):V->D->Prop where
 |scl {v:V} {d:D}:Scl v d->RG K G v d
 |ref {a:Addr} {d:D}:G a=some d->RG K G (.ref a) d
 |kc {a:Addr} {d:D}:KC K a d->RG K G (.ref a) d
abbrev bx(K:W.Frag)(G:GH):List V->List D->Prop:=Paired (RG K G)
abbrev du(K:W.Frag)(G:GH):List (au×V)->List (au×D)->Prop:=Paired fun p q=>p.1=q.1/\RG K G p.2 q.2
abbrev xD(nm:Str)(ds:List (Str×D)):D:=.obj 0 (("__class__",.str nm)::ds)
def XN(K:W.Frag)(nm:Str)(C:Addr):Prop:=∃o cd,K.lookup C=some o/\o.data=Data.cls cd/\cd.name=nm
def ie(a C:Addr)(od:Option Addr):Heap->Prop:=fun h=>∃oe vs,h.get? a=some oe/\oe.cls=.ref C/\(∀dx,od=some dx->oe.dict=some dx)/\oe.data=.fields vs
def XF(G:GH)(od:Option Addr)(ds:List (Str×D)):Prop:=match od with
|none=>ds=[]
|some dx=>G dx=some (.obj 1 ds)
theorem XF.mono{G G':GH}{od:Option Addr}{ds:List (Str×D)}(h:XF G od ds)(ge:∀a d,G a=some d->G' a=some d):XF G' od ds:=by cases od with
|none=>exact h
|some dx=>exact ge _ _ h
abbrev Mo(K:W.Frag)(G:GH):List (Str×V)->List (Str×D)->Prop:=Paired fun p q=>p.1=q.1/\RG K G p.2 q.2
inductive OB(K:W.Frag)(G:GH)(H:Hp)(a:Addr):D->Prop where
 |lst {xs:List V} {ds:List D}:Rd H a (.lst xs)->bx K G xs ds->OB K G H a (.lst ds)
 |tup {xs:List V} {ds:List D}:Rd H a (.tup xs)->bx K G xs ds->OB K G H a (.tup ds)
 |dic {ob:Obj} {ps:List (au×V)} {kvs:List (au×D)}:H a=some (.frz ob (.dK ps))->du K G ps kvs->OB K G H a (.dic kvs)
 |exc {nm:Str} {C:Addr} {od:Option Addr} {ds:List (Str×D)}:H a=some (.ext (ie a C od))->XN K nm C->XF G od ds->OB K G H a (xD nm ds)
 |fld {fs:List (Str×V)} {ds:List (Str×D)}:H a=some (.xd fs)->Mo K G fs ds->OB K G H a (.obj 1 ds)
def aI(K:W.Frag)(G:GH)(H:Hp):Prop:=∀a d,G a=some d->OB K G H a d
inductive OwnO(K:W.Frag)(G:GH)(H:Hp)(a:Addr):D->Prop where
 |lst {xs:List V} {ds:List D}:H a=some (.lst xs)->bx K G xs ds->OwnO K G H a (.lst ds)
 |dic {ps:List (au×V)} {kvs:List (au×D)}:H a=some (.dK ps)->du K G ps kvs->OwnO K G H a (.dic kvs)
structure Own(K:W.Frag)(G:GH)(H:Hp)(a:Addr)(d:D):Prop where
 un:G a=none
 ob:OwnO K G H a d
structure Grow(K:W.Frag)(G:GH)(H:Hp)(G':GH)(H':Hp):Prop where
 ok:aI K G' H'
 he:∀a o,H a=some o->H' a=some o
 ge:∀a d,G a=some d->G' a=some d
 gf:∀a,H a≠none->G' a=G a
section
variable{K:W.Frag}{G G' G1 G2:GH}{H H' H1 H2:Hp}{a p:Addr}{d:D}{v:V}
theorem Rd.mono{u:HO}(h:Rd H a u)(he:∀a o,H a=some o->H' a=some o):Rd H' a u:=by
 rcases h with h|⟨o,h⟩
 .exact .inl (he _ _ h)
 .exact .inr ⟨o,he _ _ h⟩
theorem Rd.isS{u:HO}(h:Rd H a u):H a≠none:=by rcases h with h|⟨o,h⟩ <;> rw[h] <;> simp
theorem RG.mono(h:RG K G v d)(ge:∀a d,G a=some d->G' a=some d):RG K G' v d:=by cases h with
|scl s=>exact .scl s
|ref e=>exact .ref (ge _ _ e)
|kc k=>exact .kc k
theorem bx.mono{xs:List V}{ds:List D}(h:bx K G xs ds)(ge:∀a d,G a=some d->G' a=some d):bx K G' xs ds:=Paired.mono (fun _ _ r=>r.mono ge) h
theorem du.mono{xs:List (au×V)}{ds:List (au×D)}(h:du K G xs ds)(ge:∀a d,G a=some d->G' a=some d):du K G' xs ds:=Paired.mono (fun _ _ r=>⟨r.1,r.2.mono ge⟩) h
theorem OB.mono(h:OB K G H a d)(ge:∀a d,G a=some d->G' a=some d)(he:∀o,H a=some o->H' a=some o):OB K G' H' a d:=by
 have rd:∀{u:HO},Rd H a u->Rd H' a u:=fun r=>by
  rcases r with r|⟨o,r⟩
  .exact .inl (he _ r)
  .exact .inr ⟨o,he _ r⟩
 cases h with
|lst r s=>exact .lst (rd r) (s.mono ge)
|tup r s=>exact .tup (rd r) (s.mono ge)
|dic r s=>exact .dic (he _ r) (du.mono s ge)
|exc r n f=>exact .exc (he _ r) n (f.mono ge)
|fld r s=>exact .fld (he _ r) (Paired.mono (fun _ _ r=>⟨r.1,r.2.mono ge⟩) s)
theorem OB.isS(h:OB K G H a d):H a≠none:=by cases h with
|lst r s=>exact Rd.isS r
|tup r s=>exact Rd.isS r
|dic r s=>rw[r];simp
|exc r n f=>rw[r];simp
|fld r s=>rw[r];simp
theorem aI.isN(g:aI K G H)(h:H p=none):G p=none:=by cases e:G p with
|none=>rfl
|some d=>exact absurd h (g p d e).isS
theorem OwnO.isS(h:OwnO K G H a d):H a≠none:=by cases h with
|lst r s=>rw[r];simp
|dic r s=>rw[r];simp
theorem OwnO.mono(h:OwnO K G H a d)(ge:∀a d,G a=some d->G' a=some d)(he:∀o,H a=some o->H' a=some o):OwnO K G' H' a d:=by cases h with
|lst r s=>exact .lst (he _ r) (s.mono ge)
|dic r s=>exact .dic (he _ r) (du.mono s ge)
theorem Own.mono(h:Own K G H a d)(w:Grow K G H G' H'):Own K G' H' a d:=⟨by rw[w.gf a h.ob.isS];exact h.un,h.ob.mono w.ge fun o e=>w.he _ _ e⟩
def fz(H:Hp)(a:Addr)(ob:Obj):Hp:=match H a with
|some (.dK ps)=>upd H a (.frz ob (.dK ps))
|_=>H
theorem lL{b:Addr}{ob:Obj}(h:b≠a):fz H a ob b=H b:=by unfold fz;cases e:H a with
|none=>rfl
|some u=>cases u <;> first|rfl|exact aZ h
theorem DI{xs:List V}{ob:Obj}(h:H a=some (.lst xs)):fz H a ob=H:=by unfold fz;rw[h]
theorem DH{ps:List (au×V)}{ob:Obj}(h:H a=some (.dK ps)):fz H a ob a=some (.frz ob (.dK ps)):=by unfold fz;rw[h];exact bT
theorem OwnO.fast(h:OwnO K G H a d)(ob:Obj):OB K G (fz H a ob) a d:=by cases h with
|lst r s=>rw[DI r];exact .lst (.inl r) s
|dic r s=>exact .dic (DH r) s
theorem aI.fast(g:aI K G H)(hn:G a=none)(ob:Obj):aI K G (fz H a ob):=fun b d e=>by
 have hb:b≠a:=by rintro rfl;rw[hn]at e;cases e
 exact(g b d e).mono (fun _ _ z=>z) fun o z=>by rw[lL hb];exact z
theorem Grow.refl(g:aI K G H):Grow K G H G H:=⟨g,fun _ _ e=>e,fun _ _ e=>e,fun _ _=>rfl⟩
theorem Grow.trans(x:Grow K G H G1 H1)(y:Grow K G1 H1 G2 H2):Grow K G H G2 H2:=
 ⟨y.ok,fun a o e=>y.he _ _ (x.he _ _ e),fun a d e=>y.ge _ _ (x.ge _ _ e),fun a h=>by
  have h1:H1 a≠Option.none:=by cases e:H a with
  |none=>exact absurd e h
  |some o=>rw[x.he _ _ e];simp
  rw[y.gf a h1,x.gf a h]⟩
def gset(G:GH)(a:Addr)(d:D):GH:=fun b=>if b=a then some d else G b
theorem dc:gset G a d a=some d:=if_pos rfl
theorem dy{b:Addr}(h:b≠a):gset G a d b=G b:=if_neg h
theorem dM(hn:G a=none):∀b e,G b=some e->gset G a d b=some e:=fun b e h=>by
 have:b≠a:=by rintro rfl;rw[hn]at h;cases h
 rw[dy this];exact h
theorem aI.gset(g:aI K G H)(hn:G a=none)(o:OB K G H a d):aI K (gset G a d) H:=fun b e h=>by
 by_cases hb:b=a
 .subst hb;rw[dc]at h;cases h;exact o.mono (dM hn) fun _ q=>q
 .rw[dy hb]at h;exact(g b e h).mono (dM hn) fun _ q=>q
theorem q9(hn:H p=none){o:HO}:∀a u,H a=some u->upd H p o a=some u:=fun a u e=>by rw[aZ (jn e hn)];exact e
theorem Grow.new(g:aI K G H)(hn:H p=none)(o:HO):Grow K G H G (upd H p o):=⟨fun a d e=>(g a d e).mono (fun _ _ q=>q) fun u q=>q9 hn _ _ q,fun a u e=>q9 hn _ _ e,fun _ _ e=>e,fun _ _=>rfl⟩
theorem Grow.newF(g:aI K G H)(hn:H p=none){o:HO}(ob:OB K G (upd H p o) p d):Grow K G H (gset G p d) (upd H p o):=by have w:=Grow.new g hn o;have gn:=g.isN hn;exact⟨w.ok.gset gn ob,w.he,fun a e h=>dM gn a e h,fun a h=>dy (by rintro rfl;exact h hn)⟩
theorem Grow.frz(w:Grow K G H G' H')(hn:H a=none)(o:Own K G' H' a d)(ob:Obj):Grow K G H (gset G' a d) (fz H' a ob):=⟨(w.ok.fast o.un ob).gset o.un (o.ob.fast ob),fun b u e=>by rw[lL (by rintro rfl;rw[hn]at e;cases e)];exact w.he b u e,fun b e h=>dM o.un b e (w.ge b e h),fun b h=>by rw[dy (by rintro rfl;exact h hn)];exact w.gf b h⟩
theorem RG.lst{ds:List D}(g:aI K G H)(h:RG K G v (.lst ds)):∃a xs,v=.ref a/\aU K H a xs/\bx K G xs ds:=by cases h with
|scl s=>cases s
|ref e=>cases g _ _ e with
 |lst r s=>exact⟨_,_,rfl,.inl r,s⟩
|kc k=>cases k with
 |lst r s=>
   refine⟨_,_,rfl,?_,Paired.mono (fun _ _ z=>.scl z) s⟩;rcases r with(r|⟨o,r⟩)|r
   .cases r
   .cases r
   .exact .inr r
theorem RG.tup{ds:List D}(g:aI K G H)(h:RG K G v (.tup ds)):∃a xs,v=.ref a/\bI K H a xs/\bx K G xs ds:=by cases h with
|scl s=>cases s
|ref e=>cases g _ _ e with
 |tup r s=>exact⟨_,_,rfl,.inl r,s⟩
|kc k=>cases k with
 |tup r s _=>
   refine⟨_,_,rfl,?_,Paired.mono (fun _ _ z=>.scl z) s⟩;rcases r with(r|⟨o,r⟩)|r
   .cases r
   .cases r
   .exact .inr r
theorem RG.dic{kvs:List (au×D)}(g:aI K G H)(h:RG K G v (.dic kvs)):∃a ps,v=.ref a/\Rd H a (.dK ps)/\du K G ps kvs:=by cases h with
|scl s=>cases s
|ref e=>cases g _ _ e with
 |dic r s=>exact⟨_,_,rfl,.inr ⟨_,r⟩,s⟩
|kc k=>cases k
theorem RG.int{i:Int}(g:aI K G H)(h:RG K G v (.int i)):v=.int i:=by cases h with
|scl s=>cases s;rfl
|ref e=>cases g _ _ e
|kc k=>cases k
theorem RG.str{x:Str}(g:aI K G H)(h:RG K G v (.str x)):v=.str x:=by cases h with
|scl s=>cases s;rfl
|ref e=>cases g _ _ e
|kc k=>cases k
theorem RG.bl{b:Bool}(g:aI K G H)(h:RG K G v (.bl b)):v=.bl b:=by cases h with
|scl s=>cases s;rfl
|ref e=>cases g _ _ e
|kc k=>cases k
theorem RG.non(g:aI K G H)(h:RG K G v .non):v=.non:=by cases h with
|scl s=>cases s;rfl
|ref e=>cases g _ _ e
|kc k=>cases k
def RB(K:W.Frag)(G:GH)(H:Hp)(v:V)(d:D):Prop:=RG K G v d\/∃a,v=.ref a/\Own K G H a d
theorem RG.rb(h:RG K G v d):RB K G H v d:=.inl h
theorem RB.mono(h:RB K G H v d)(w:Grow K G H G' H'):RB K G' H' v d:=by
 rcases h with h|⟨a,e,h⟩
 .exact .inl (h.mono w.ge)
 .exact .inr ⟨a,e,h.mono w⟩
theorem RB.lst{ds:List D}(g:aI K G H)(h:RB K G H v (.lst ds)):∃a xs,v=.ref a/\aU K H a xs/\bx K G xs ds:=by
 rcases h with h|⟨a,e,h⟩
 .exact h.lst g
 .cases h.ob with
 |lst r s=>exact⟨a,_,e,aU.of r,s⟩
theorem RB.tup{ds:List D}(g:aI K G H)(h:RB K G H v (.tup ds)):∃a xs,v=.ref a/\bI K H a xs/\bx K G xs ds:=by
 rcases h with h|⟨a,e,h⟩
 .exact h.tup g
 .cases h.ob
theorem RB.dic{kvs:List (au×D)}(g:aI K G H)(h:RB K G H v (.dic kvs)):∃a ps,v=.ref a/\Rd H a (.dK ps)/\du K G ps kvs:=by
 rcases h with h|⟨a,e,h⟩
 .exact h.dic g
 .cases h.ob with
 |dic r s=>exact⟨a,_,e,.inl r,s⟩
theorem RB.int{i:Int}(g:aI K G H)(h:RB K G H v (.int i)):v=.int i:=by
 rcases h with h|⟨a,e,h⟩
 .exact h.int g
 .cases h.ob
theorem RB.str{x:Str}(g:aI K G H)(h:RB K G H v (.str x)):v=.str x:=by
 rcases h with h|⟨a,e,h⟩
 .exact h.str g
 .cases h.ob
theorem RB.bl{b:Bool}(g:aI K G H)(h:RB K G H v (.bl b)):v=.bl b:=by
 rcases h with h|⟨a,e,h⟩
 .exact h.bl g
 .cases h.ob
theorem RB.non(g:aI K G H)(h:RB K G H v .non):v=.non:=by
 rcases h with h|⟨a,e,h⟩
 .exact h.non g
 .cases h.ob
theorem Paired.get{α β:Type}{F:α->β->Prop}:∀{l:List α}{r:List β}{i:Nat}{b:β},Paired F l r->r[i]? = some b->∃a,l[i]? = some a/\F a b
|_,_,_,_,.nil,e=>by simp at e
|_,_,0,_,.cons h _,e=>by simp at e;subst e;exact⟨_,rfl,h⟩
|_,_,i+1,b,.cons _ t,e=>by obtain⟨a,h1,h2⟩:=Paired.get (i:=i) t (by simpa using e);exact⟨a,by simpa using h1,h2⟩
theorem Paired.app{α β:Type}{F:α->β->Prop}{l l':List α}{r r':List β}(h:Paired F l r)(q:Paired F l' r'):Paired F (l++l') (r++r'):=by induction h with
|nil=>exact q
|cons h _ ih=>exact .cons h ih
theorem Paired.tk{α β:Type}{F:α->β->Prop}{l:List α}{r:List β}(n:Nat)(h:Paired F l r):Paired F (l.take n) (r.take n):=by induction h generalizing n with
|nil=>cases n <;> exact .nil
|cons h _ ih=>cases n with
 |zero=>exact .nil
 |succ n=>exact .cons h (ih n)
theorem Paired.dr{α β:Type}{F:α->β->Prop}{l:List α}{r:List β}(n:Nat)(h:Paired F l r):Paired F (l.drop n) (r.drop n):=by induction h generalizing n with
|nil=>cases n <;> exact .nil
|cons h t ih=>cases n with
 |zero=>exact .cons h t
 |succ n=>exact ih n
theorem Paired.st{α β:Type}{F:α->β->Prop}{a:α}{b:β}(h:F a b){l:List α}{r:List β}(n:Nat)(p:Paired F l r):Paired F (l.set n a) (r.set n b):=by induction p generalizing n with
|nil=>exact .nil
|cons q t ih=>cases n with
 |zero=>exact .cons h t
 |succ n=>exact .cons q (ih n)
theorem Paired.er{α β:Type}{F:α->β->Prop}{l:List α}{r:List β}(n:Nat)(p:Paired F l r):Paired F (l.eraseIdx n) (r.eraseIdx n):=by induction p generalizing n with
|nil=>exact .nil
|cons q t ih=>cases n with
 |zero=>exact t
 |succ n=>exact .cons q (ih n)
end
inductive Md where
 |sh|ow|bw
 deriving DecidableEq
abbrev aj:=List (Option D)
structure GE where
 gh:GH
 h0:Hp
 hd:Nat->Option (Option V×Option D)
def Bw(K:W.Frag)(h0:Hp)(G:GH)(H:Hp)(v:V)(d:D):Prop:=RG K G v d\/∃a,v=V.ref a/\Own K G H a d/\h0 a≠none
theorem Bw.grow{K:W.Frag}{h0:Hp}{G G':GH}{H H':Hp}{v:V}{d:D}(h:Bw K h0 G H v d)(w:Grow K G H G' H'):Bw K h0 G' H' v d:=by
 rcases h with h|⟨a,e,h1,h2⟩
 .exact .inl (h.mono w.ge)
 .exact .inr ⟨a,e,h1.mono w,h2⟩
theorem Bw.rb{K:W.Frag}{h0:Hp}{G:GH}{H:Hp}{v:V}{d:D}(h:Bw K h0 G H v d):RB K G H v d:=by
 rcases h with h|⟨a,e,h1,h2⟩
 .exact .inl h
 .exact .inr ⟨a,e,h1⟩
def Lk(r:aj)(st:L2.St)(i:Nat)(o:Option V×Option D):Prop:=st[i]? = some o.1/\∀d,r[i]? = some (some d)->o.2=some d
structure SI(X:Cx)(g:GE)(m:List Md)(r:aj)(G:GH)(st:L2.St)(H:Hp):Prop where
 gok:aI X.K G H
 old:∀a o,g.h0 a=some o->H a=some o
 ge:∀a d,g.gh a=some d->G a=some d
 gf:∀a,g.h0 a≠none->G a=g.gh a
 lm:m.length=st.length
 lr:r.length=st.length
 sh:∀(i:Nat) d,r[i]? = some (some d)->m[i]? = some .sh->∃v,st[i]? = some (some v)/\RG X.K G v d
 ow:∀(i:Nat) d,r[i]? = some (some d)->m[i]? = some .ow->∃a,st[i]? = some (some (V.ref a))/\Own X.K G H a d/\g.h0 a=none
 bw:∀(i:Nat) d,r[i]? = some (some d)->m[i]? = some .bw->∃v,st[i]? = some (some v)/\Bw X.K g.h0 G H v d
 dis:∀(i j:Nat) a d e,i≠j->r[i]? = some (some d)->r[j]? = some (some e)->m[i]? = some .ow->m[j]? = some .ow->st[i]? = some (some (V.ref a))->st[j]? = some (some (V.ref a))->False
 lk:∀(i:Nat) o,g.hd i=some o->m[i]? = some .bw->Lk r st i o
section
variable{X:Cx}{g:GE}{m:List Md}{r:aj}{G G':GH}{st:L2.St}{H H':Hp}
theorem SI.grow(s:SI X g m r G st H)(w:Grow X.K G H G' H'):SI X g m r G' st H' where
 gok:=w.ok
 old:=fun a o e=>w.he _ _ (s.old a o e)
 ge:=fun a d e=>w.ge _ _ (s.ge a d e)
 gf:=fun a h=>by
  have h1:H a≠none:=by cases e:g.h0 a with
  |none=>exact absurd e h
  |some o=>rw[s.old _ _ e];simp
  rw[w.gf a h1,s.gf a h]
 lm:=s.lm
 lr:=s.lr
 sh:=fun i d h1 h2=>by obtain⟨v,h3,h4⟩:=s.sh i d h1 h2;exact⟨v,h3,h4.mono w.ge⟩
 ow:=fun i d h1 h2=>by obtain⟨a,h3,h4,h5⟩:=s.ow i d h1 h2;exact⟨a,h3,h4.mono w,h5⟩
 bw:=fun i d h1 h2=>by obtain⟨v,h3,h4⟩:=s.bw i d h1 h2;exact⟨v,h3,h4.grow w⟩
 dis:=s.dis
 lk:=s.lk
theorem SI.grown(s:SI X g m r G st H):Grow X.K g.gh g.h0 G H:=⟨s.gok,s.old,s.ge,s.gf⟩
theorem SI.frz(s:SI X g m r G st H)(i:Nat)(hi:m[i]? = some .ow):(∃G',(∀a d,G a=some d->G' a=some d)/\SI X g (m.set i .sh) r G' st H)\/∃a,∀ob,∃G',(∀a d,G a=some d->G' a=some d)/\SI X g (m.set i .sh) r G' st (fz H a ob):=by
 have hlt:i<m.length:=(h_.mp hi).1;by_cases hb:∃d,r[i]? = some (some d)
 .obtain⟨d,hd⟩:=hb;obtain⟨a,h1,h2,h3⟩:=s.ow i d hd hi;refine .inr ⟨a,fun ob=>⟨gset G a d,dM h2.un,(s.gok.fast h2.un ob).gset h2.un (h2.ob.fast ob),fun b o e=>by rw[lL (by rintro rfl;rw[h3]at e;cases e)];exact s.old b o e,fun b e h=>dM h2.un b e (s.ge b e h),fun b h=>?_,by simpa using s.lm,s.lr,?_,?_,?_,?_,fun j o hj hm=>?_⟩⟩
  .rw[dy (by rintro rfl;exact h h3)];exact s.gf b h
  .intro j e hj hm;by_cases hij:i=j
   .subst hij;rw[hd]at hj;cases hj;exact⟨_,h1,.ref dc⟩
   .rw[d_ hij]at hm;obtain⟨v,q1,q2⟩:=s.sh j e hj hm;exact⟨v,q1,q2.mono (dM h2.un)⟩
  .intro j e hj hm;by_cases hij:i=j
   .subst hij;rw[o_ hlt]at hm;cases hm
   .rw[d_ hij]at hm;obtain⟨b,q1,q2,q3⟩:=s.ow j e hj hm;have hba:b≠a:=by
     rintro rfl
     exact s.dis i j b d e hij hd hj hi hm h1 q1
    exact⟨b,q1,⟨by rw[dy hba];exact q2.un,q2.ob.mono (dM h2.un) fun _ z=>by rw[lL hba];exact z⟩,q3⟩
  .intro j e hj hm;by_cases hij:i=j
   .subst hij;rw[o_ hlt]at hm;cases hm
   .rw[d_ hij]at hm;obtain⟨v,q1,q2⟩:=s.bw j e hj hm;refine⟨v,q1,?_⟩;rcases q2 with q2|⟨b,rfl,q2,q3⟩
    .exact .inl (q2.mono (dM h2.un))
    .have hba:b≠a:=by rintro rfl;exact q3 h3
     exact .inr ⟨b,rfl,⟨by rw[dy hba];exact q2.un,q2.ob.mono (dM h2.un) fun _ z=>by rw[lL hba];exact z⟩,q3⟩
  .intro j k b e e' hjk hj hk hm hm' q1 q2;have hij:i≠j:=by
    rintro rfl
    rw[o_ hlt]at hm;cases hm
   have hik:i≠k:=by
    rintro rfl
    rw[o_ hlt]at hm';cases hm'
   rw[d_ hij]at hm;rw[d_ hik]at hm';exact s.dis j k b e e' hjk hj hk hm hm' q1 q2
  .refine s.lk j o hj ?_;by_cases hij:i=j
   .subst hij;rw[o_ hlt]at hm;cases hm
   .rw[d_ hij]at hm;exact hm
 .refine .inl ⟨G,fun _ _ z=>z,s.gok,s.old,s.ge,s.gf,by simpa using s.lm,s.lr,?_,?_,?_,?_,fun j o hj hm=>?_⟩
  .intro j e hj hm;have hij:i≠j:=by rintro rfl;exact hb ⟨e,hj⟩
   rw[d_ hij]at hm;exact s.sh j e hj hm
  .intro j e hj hm;have hij:i≠j:=by rintro rfl;exact hb ⟨e,hj⟩
   rw[d_ hij]at hm;exact s.ow j e hj hm
  .intro j e hj hm;have hij:i≠j:=by rintro rfl;exact hb ⟨e,hj⟩
   rw[d_ hij]at hm;exact s.bw j e hj hm
  .intro j k b e e' hjk hj hk hm hm' q1 q2;have hij:i≠j:=by rintro rfl;exact hb ⟨e,hj⟩
   have hik:i≠k:=by rintro rfl;exact hb ⟨e',hk⟩
   rw[d_ hij]at hm;rw[d_ hik]at hm';exact s.dis j k b e e' hjk hj hk hm hm' q1 q2
  .refine s.lk j o hj ?_;by_cases hij:i=j
   .subst hij;rw[o_ hlt]at hm;cases hm
   .rw[d_ hij]at hm;exact hm
end
theorem PE.imp{X:Cx}{e:Expr}{t t':TE}(h:PE X e t)(i:∀σ H Q,t' σ H Q->t σ H Q):PE X e t':=fun pz s σ H Q I q=>h pz s σ H Q I (i σ H Q q)
theorem PT.imp{X:Cx}{e:Expr}{t t':TT}(h:PT X e t)(i:∀σ H Q,t' σ H Q->t σ H Q):PT X e t':=fun pz s σ H Q I q=>h pz s σ H Q I (i σ H Q q)
theorem PW.imp{X:Cx}{e:Expr}{t t':TT}(h:PW X e t)(i:∀σ H Q,t' σ H Q->t σ H Q):PW X e t':=fun whole pz s σ H Q I q=>h whole pz s σ H Q I (i σ H Q q)
theorem PA.imp{X:Cx}{e:List Expr}{t t':TA}(h:PA X e t)(i:∀σ H Q,t' σ H Q->t σ H Q):PA X e t':=fun pos pz s σ H Q I q=>h pos pz s σ H Q I (i σ H Q q)
theorem PS.imp{X:Cx}{e:Stmt}{t t':TS}(h:PS X e t)(i:∀D σ H,t' D σ H->t D σ H):PS X e t':=fun pz s σ H D I q=>h pz s σ H D I (i D σ H q)
theorem c6.imp{X:Cx}{e:List Stmt}{t t':TS}(h:c6 X e t)(i:∀D σ H,t' D σ H->t D σ H):c6 X e t':=fun pz s σ H D I q=>h pz s σ H D I (i D σ H q)
def CY(X:Cx)(σ:L2.St)(G:GH)(H':Hp)(e:b_)(x:D)(s':g_):Prop:=∃pz s H1 a C od nm ds,e=.ref a/\x=xD nm ds/\XN X.K nm C/\XF G od ds/\Inv X pz σ H1 s/\Fly X.prog X.w X.stack H1 s H' a (.ref C) od s'
def XW(X:Cx)(σ:L2.St)(G:GH)(H:Hp)(x:D):Prop:=∀pz e s' G' H',Grow X.K G H G' H'->Inv X pz σ H' s'->CY X σ G' H' e x s'->X.xe e s'
theorem XW.grow{X:Cx}{σ:L2.St}{G G1:GH}{H H1:Hp}{x:D}(h:XW X σ G H x)(w:Grow X.K G H G1 H1):XW X σ G1 H1 x:=fun pz e s' G' H' w' I q=>h pz e s' G' H' (w.trans w') I q
abbrev FE:=aj->Res D
def tE(X:Cx)(g:GE)(m:List Md)(f:FE):TE:=fun σ H Q=>∃r G,SI X g m r G σ H/\fin (f r) (fun d=>∀v G' H',Grow X.K G H G' H'->RG X.K G' v d->Q v H') (XW X σ G H)
def tB(X:Cx)(g:GE)(m:List Md)(f:FE):TE:=fun σ H Q=>∃r G,SI X g m r G σ H/\fin (f r) (fun d=>∀v G' H',Grow X.K G H G' H'->RB X.K G' H' v d->Q v H') (XW X σ G H)
def tO(X:Cx)(g:GE)(m:List Md)(f:FE):TE:=fun σ H Q=>∃r G,SI X g m r G σ H/\fin (f r) (fun d=>∀a G' H',Grow X.K G H G' H'->H a=none->Own X.K G' H' a d->Q (.ref a) H') (XW X σ G H)
def tQ(X:Cx)(g:GE)(m:List Md)(f:aj->Res Bool):TT:=fun σ H Q=>∃r G,SI X g m r G σ H/\fin (f r) (fun b=>∀G' H',Grow X.K G H G' H'->Q b H') (XW X σ G H)
def tL(X:Cx)(g:GE)(m:List Md)(f:aj->Res (List D)):TA:=fun σ H Q=>∃r G,SI X g m r G σ H/\fin (f r) (fun ds=>∀vs G' H',Grow X.K G H G' H'->bx X.K G' vs ds->Q vs H') (XW X σ G H)
def vM(X:Cx)(g:GE)(m:List Md)(f:aj->Res (List D)):TA:=fun σ H Q=>∃r G,SI X g m r G σ H/\fin (f r) (fun ds=>∀vs G' H',Grow X.K G H G' H'->Paired (RB X.K G' H') vs ds->Q vs H') (XW X σ G H)
def SE(X:Cx)(g:GE)(m:List Md)(e:Expr)(f:FE):Prop:=PE X e (tE X g m f)
def SB(X:Cx)(g:GE)(m:List Md)(e:Expr)(f:FE):Prop:=PE X e (tB X g m f)
def SO(X:Cx)(g:GE)(m:List Md)(e:Expr)(f:FE):Prop:=PE X e (tO X g m f)
def SQ(X:Cx)(g:GE)(m:List Md)(e:Expr)(f:aj->Res Bool):Prop:=PT X e (tQ X g m f)
def SW(X:Cx)(g:GE)(m:List Md)(e:Expr)(f:aj->Res Bool):Prop:=PW X e (tQ X g m f)
def SA(X:Cx)(g:GE)(m:List Md)(es:List Expr)(f:aj->Res (List D)):Prop:=PA X es (tL X g m f)
def gw(X:Cx)(g:GE)(m:List Md)(es:List Expr)(f:aj->Res (List D)):Prop:=PA X es (vM X g m f)
section
variable{X:Cx}{g:GE}{m:List Md}{e a b c:Expr}{f fa fb fc:FE}{pos:Pos}
theorem SE.toB(h:SE X g m e f):SB X g m e f:=PE.imp h fun σ H Q ⟨r,G,si,q⟩=>⟨r,G,si,aW q fun d k v G' H' w z=>k v G' H' w z.rb⟩
theorem Inv.fast{pz:List (Addr×Obj)}{σ:L2.St}{H:Hp}{s:g_}(I:Inv X pz σ H s)(a:Addr):∃ob,Inv X pz σ (fz H a ob) s:=by cases e:H a with
|none=>exact⟨{ cls:=.none,data:=.fields #[] },by unfold fz;rw[e];exact I⟩
|some u=>cases u with
 |dK ps=>
   obtain⟨z1,z2,vs,z3,o,es,ep,z4,z5⟩:=(show bj X.prog X.w H s.heap a (.dK ps)from I.hok a _ e)
   have ef:fz H a o=upd H a (.frz o (.dK ps)):=by unfold fz;rw[e]
   refine⟨o,?_⟩;rw[ef];exact I.write (t':=s.toks) (h':=s.heap) (x:=a) (e:=a) (by rw[e];exact trivial) (.inl rfl) (fun b u _ q=>q) ⟨o,z4⟩ (show bj X.prog X.w _ s.heap a (.frz o (.dK ps))from⟨z4,z1,z2,vs,z3,o,es,ep,z4,z5⟩)
 |_=>exact⟨{ cls:=.none,data:=.fields #[] },by unfold fz;rw[e];exact I⟩
theorem SO.toE(h:SO X g m e f):SE X g m e f:=by intro pz s σ H Q I ⟨r,G,si,q⟩;refine aG (h pz s σ H (fun v H'=>∃a,v=.ref a/\∀ob,Q v (fz H' a ob)) I ⟨r,G,si,aW q fun d k a G' H' w hn o=>⟨a,rfl,fun ob=>k _ _ _ (w.frz hn o ob) (.ref dc)⟩⟩) fun u s' ⟨v,H',I',rv,a,_,z⟩=>?_;obtain⟨ob,I2⟩:=Inv.fast I' a;exact⟨v,_,I2,rv,z ob⟩
theorem SO.toB(h:SO X g m e f):SB X g m e f:=h.toE.toB
theorem SE.eq{f':FE}(h:SE X g m e f)(q:∀r,f' r=f r):SE X g m e f':=by have:f'=f:=funext q;rw[this];exact h
theorem ma{v:V}{d:D}(h:PE X e (tC v))(s:Scl v d):SE X g m e fun _=>.ok d:=PE.imp h fun σ H Q ⟨r,G,si,q⟩=>q v G H (Grow.refl si.gok) (.scl s)
theorem lM{i:Int}{j}:SE X g m (.Constant (.int i) j pos) fun _=>.ok (.int i):=ma Es (.int i)
theorem bZ{i:Bool}{j}:SE X g m (.Constant (.bool i) j pos) fun _=>.ok (.bl i):=ma D8 (.bl i)
theorem jD{j}:SE X g m (.Constant .none j pos) fun _=>.ok .non:=ma Eu .non
theorem xY{i:Str}{j}:SE X g m (.Constant (.str i) j pos) fun _=>.ok (.str i):=ma Ex (.str i)
def dI(r:aj)(i:Nat):Res D:=match r[i]? with
|some (some d)=>.ok d
|_=>.stuck
theorem r6{r:aj}{i:Nat}{q:D->Prop}{x:D->Prop}(h:fin (dI r i) q x):∃d,r[i]? = some (some d)/\q d:=by
 unfold dI at h;split at h
 .rename_i d e;exact⟨d,e,h⟩
 .exact h.elim
theorem DS(i:Nat){x:Str}(hm:m[i]? = some .sh)(hN:X.N[i]? = some x)(hv:fD X.env.scope x)(hd:(x==("__debug__" : Str))=false:=by decide)(hcd:(x==("__classdict__" : Str))=false:=by decide):SE X g m (.Name x pos) fun r=>dI r i:=by refine PE.imp (kO hN hv hd hcd) fun σ H Q ⟨r,G,si,q⟩=>?_;obtain⟨d,e,k⟩:=r6 q;obtain⟨v,e1,e2⟩:=si.sh i d e hm;exact⟨v,e1,k v G H (Grow.refl si.gok) e2⟩
theorem FN(i:Nat){x:Str}(hm:i<m.length)(hN:X.N[i]? = some x)(hv:fD X.env.scope x)(hd:(x==("__debug__" : Str))=false:=by decide)(hcd:(x==("__classdict__" : Str))=false:=by decide):SB X g m (.Name x pos) fun r=>dI r i:=by refine PE.imp (kO hN hv hd hcd) fun σ H Q ⟨r,G,si,q⟩=>?_;obtain⟨d,e,k⟩:=r6 q;have hm':m[i]? = some m[i]:=n_ hm;cases h:m[i]with
|sh=>obtain⟨v,e1,e2⟩:=si.sh i d e (hm'.trans (by rw[h]));exact⟨v,e1,k v G H (Grow.refl si.gok) e2.rb⟩
|ow=>obtain⟨v,e1,e2,_⟩:=si.ow i d e (hm'.trans (by rw[h]));exact⟨_,e1,k _ G H (Grow.refl si.gok) (.inr ⟨v,rfl,e2⟩)⟩
|bw=>obtain⟨v,e1,e2⟩:=si.bw i d e (hm'.trans (by rw[h]));exact⟨_,e1,k _ G H (Grow.refl si.gok) e2.rb⟩
theorem FM{x:Str}{v:V}{u:b_}{d:D}(hg:Gl X x)(hm:X.mg x=some u)(r:am v u)(s:Scl v d)(hd:(x==("__debug__" : Str))=false:=by decide):SE X g m (.Name x pos) fun _=>.ok d:=ma (rW hg hm r hd) s
theorem j2{β:Type}{k:D->D->Res β}{q:β->Prop}{R:V->V->Hp->Prop}{r:aj}{G:GH}{σ:L2.St}{H:Hp}(si:SI X g m r G σ H)(h:fin ((fa r).bind fun d1=>(fb r).bind fun d2=>k d1 d2) q (XW X σ G H))(hk:∀d1 d2 v1 v2 G2 H2,Grow X.K G H G2 H2->RB X.K G2 H2 v1 d1->RB X.K G2 H2 v2 d2->fin (k d1 d2) q (XW X σ G H)->R v1 v2 H2):tB X g m fa σ H fun v1 H1=>tB X g m fb σ H1 fun v2 H2=>R v1 v2 H2:=by refine⟨r,G,si,aW (aY h) fun d1 h1 v1 G1 H1 w1 r1=>⟨r,G1,si.grow w1,?_⟩⟩;cases e:fb r with
|ok d2=>rw[e]at h1;exact fun v2 G2 H2 w2 r2=>hk d1 d2 v1 v2 G2 H2 (w1.trans w2) (r1.mono w2) r2 h1
|exc x=>rw[e]at h1;exact(show XW X σ G H x from h1).grow w1
|stuck=>rw[e]at h1;exact h1
def bK{α:Type}:Option α->Res α
|some a=>.ok a
|none=>.stuck
@[simp] theorem opt_some{α:Type}(a:α):bK (some a)=.ok a:=rfl
@[simp] theorem opt_none{α:Type}:bK (none:Option α)=.stuck:=rfl
theorem cb{α:Type}{o:Option α}{q:α->Prop}{x:D->Prop}(h:fin (bK o) q x):∃a,o=some a/\q a:=by cases o with
|none=>exact h.elim
|some a=>exact⟨a,rfl,h⟩
def cH(K:W.Frag)(r:R2)(k:D->D->Option D):Prop:=∀(G:GH)(H:Hp)(v1 v2:V)(d1 d2 d:D)(Q:VK),aI K G H->RB K G H v1 d1->RB K G H v2 d2->k d1 d2=some d ->(∀v G' H',Grow K G H G' H'->RG K G' v d->Q v H')->r v1 v2 H Q
def f2(fa fb:FE)(k:D->D->Option D):FE:=fun r=>(fa r).bind fun d1=>(fb r).bind fun d2=>bK (k d1 d2)
theorem qJ{R:R2}{k:D->D->Option D}(ho:cH X.K R k)(h:PE X e (m9 R (tB X g m fa) (tB X g m fb))):SE X g m e (f2 fa fb k):=by refine PE.imp h fun σ H Q ⟨r,G,si,q⟩=>?_;refine j2 si q fun d1 d2 v1 v2 G2 H2 w r1 r2 q2=>?_;obtain⟨d,e,q2⟩:=cb q2;exact ho G2 H2 v1 v2 d1 d2 d Q w.ok r1 r2 e fun v G' H' w' z=>q2 v G' H' (w.trans w') z
theorem i0{op:Operator}{R:R2}{k:D->D->Option D}(hr:aR X (NQ op) R)(ho:cH X.K R k)(ha:SB X g m a fa)(hb:SB X g m b fb):SE X g m (.BinOp a op b pos) (f2 fa fb k):=qJ ho (Ea hr ha hb)
theorem xU{op:S0}{R:R2}{k:D->D->Option D}(hr:aR X (MC op) R)(ho:cH X.K R k)(ha:SB X g m a fa)(hb:SB X g m b fb)(hm:NJ op b=false):SE X g m (.Compare a [op] [b] pos) (f2 fa fb k):=qJ ho (Gh hr ha hb hm)
def gU:D->Option Bool
|.bl b=>some b
|_=>none
def aP(f:FE):aj->Res Bool:=fun r=>(f r).bind fun d=>bK (gU d)
theorem iU{op:S0}{R:R2}{k:D->D->Option D}(hr:aR X (MC op) R)(ho:cH X.K R k)(ha:SB X g m a fa)(hb:SB X g m b fb)(hm:NJ op b=false):SQ X g m (.Compare a [op] [b] pos) (aP (f2 fa fb k)):=by
 refine PT.imp (Gq hr ha hb hm) fun σ H Q ⟨r,G,si,q⟩=>?_;have e:aP (f2 fa fb k) r=(fa r).bind fun d1=>(fb r).bind fun d2=>(bK (k d1 d2)).bind fun d=>bK (gU d):=by unfold aP f2;cases fa r with
 |ok d1=>cases fb r <;> rfl
 |exc _=>rfl
 |stuck=>rfl
 rw[e]at q;refine j2 (R:=fun x y H2=>R x y H2 fun x H'=>∃k,x=V.bl k/\Q k H') si q fun d1 d2 v1 v2 G2 H2 w r1 r2 q3=>?_;obtain⟨d,e,q3⟩:=cb (aY q3);obtain⟨b,eb,q3⟩:=cb q3;cases d with
|bl b'=>cases eb;exact ho G2 H2 v1 v2 d1 d2 _ _ w.ok r1 r2 e fun v G' H' w' z=>⟨_,z.bl w'.ok,q3 G' H' (w.trans w')⟩
|_=>cases eb
end
instance decMul(i j:Int):Decidable (fg i j):=by unfold fg;infer_instance
instance decDiv(i j:Int):Decidable (gj i j):=by unfold gj;infer_instance
instance decPow(i j:Int):Decidable (gb i j):=by unfold gb;infer_instance
def jx(k:Int->Int->D):D->D->Option D
|.int a,.int b=>some (k a b)
|_,_=>none
def ii(C:Int->Int->Prop)[∀a b,Decidable (C a b)](k:Int->Int->D):D->D->Option D
|.int a,.int b=>if C a b then some (k a b)else none
|_,_=>none
@[simp] theorem ints2_int(k:Int->Int->D)(a b:Int):jx k (.int a) (.int b)=some (k a b):=rfl
@[simp] theorem intsC_int(C:Int->Int->Prop)[∀a b,Decidable (C a b)](k:Int->Int->D)(a b:Int):ii C k (.int a) (.int b)=if C a b then some (k a b)else none:=rfl
section
variable{K:W.Frag}
theorem kU{gv:Int->Int->V}{gd:Int->Int->D}(hs:∀i j,Scl (gv i j) (gd i j)):cH K (hX gv) (jx gd):=by
 intro G H v1 v2 d1 d2 d Q g r1 r2 e q;unfold jx at e;split at e
 .cases e;exact⟨_,_,r1.int g,r2.int g,q _ G H (Grow.refl g) (.scl (hs _ _))⟩
 .cases e
theorem mq{C:Int->Int->Prop}[∀a b,Decidable (C a b)]{gv:Int->Int->V}{gd:Int->Int->D}(hs:∀i j,Scl (gv i j) (gd i j)):cH K (rI C gv) (ii C gd):=by
 intro G H v1 v2 d1 d2 d Q g r1 r2 e q;unfold ii at e;split at e
 .split at e
  .rename_i hc;cases e;exact⟨_,_,r1.int g,r2.int g,hc,q _ G H (Grow.refl g) (.scl (hs _ _))⟩
  .cases e
 .cases e
theorem cH.or{r r':R2}{k k':D->D->Option D}(h:cH K r k)(h':cH K r' k'):cH K (fun x y H Q=>r x y H Q\/r' x y H Q) (fun a b=>match k a b with|some d=>some d|none=>k' a b):=by intro G H v1 v2 d1 d2 d Q g r1 r2 e q;cases e1:k d1 d2 with
|some d'=>simp only[e1]at e;cases e;exact .inl (h G H v1 v2 d1 d2 d Q g r1 r2 e1 q)
|none=>simp only[e1]at e;exact .inr (h' G H v1 v2 d1 d2 d Q g r1 r2 e q)
end
abbrev j1:D->D->Option D:=jx fun a b=>.int (a-b)
abbrev cF:D->D->Option D:=ii fg fun a b=>.int (a*b)
abbrev iR:D->D->Option D:=ii gj fun a b=>.int (a/b)
abbrev bi:D->D->Option D:=ii (fun _ b=>0<b) fun a b=>.int (a%b)
abbrev gQ:D->D->Option D:=ii gb fun a b=>.int (a^b.toNat)
abbrev gR:D->D->Option D:=jx fun a b=>.bl (decide (a<b))
abbrev wA:D->D->Option D:=jx fun a b=>.bl (decide (a<=b))
abbrev d9:D->D->Option D:=jx fun a b=>.bl (decide (b<a))
section
variable{X:Cx}{g:GE}{m:List Md}{e a b c:Expr}{f fa fb fc:FE}{pos:Pos}
theorem DR(ha:SB X g m a fa)(hb:SB X g m b fb):SE X g m (.BinOp a .Sub b pos) (f2 fa fb j1):=i0 En (kU fun _ _=>.int _) ha hb
theorem jC(ha:SB X g m a fa)(hb:SB X g m b fb):SE X g m (.BinOp a .Mult b pos) (f2 fa fb cF):=i0 Ek (mq fun _ _=>.int _) ha hb
theorem oG(ha:SB X g m a fa)(hb:SB X g m b fb):SE X g m (.BinOp a .FloorDiv b pos) (f2 fa fb iR):=i0 Gc (mq fun _ _=>.int _) ha hb
theorem fI(ha:SB X g m a fa)(hb:SB X g m b fb):SE X g m (.BinOp a .Mod b pos) (f2 fa fb bi):=i0 Ej (mq fun _ _=>.int _) ha hb
theorem DO(ha:SB X g m a fa)(hb:SB X g m b fb):SE X g m (.BinOp a .Pow b pos) (f2 fa fb gQ):=i0 Em (mq fun _ _=>.int _) ha hb
theorem ng(ha:SB X g m a fa)(hb:SB X g m b fb):SE X g m (.Compare a [.Gt] [b] pos) (f2 fa fb d9):=xU xN (kU fun _ _=>.bl _) ha hb (jb _)
theorem iG(ha:SB X g m a fa)(hb:SB X g m b fb):SQ X g m (.Compare a [.Lt] [b] pos) (aP (f2 fa fb gR)):=iU xG (kU fun _ _=>.bl _) ha hb (jb _)
theorem eQ(ha:SB X g m a fa)(hb:SB X g m b fb):SQ X g m (.Compare a [.Gt] [b] pos) (aP (f2 fa fb d9)):=iU xN (kU fun _ _=>.bl _) ha hb (jb _)
def f1(fa:FE)(k:D->Option D):FE:=fun r=>(fa r).bind fun d=>bK (k d)
def ki:D->Option D
|.int a=>some (.int (-a))
|_=>none
@[simp] theorem negI_int(a:Int):ki (.int a)=some (.int (-a)):=rfl
theorem DM(ha:SB X g m a fa):SE X g m (.UnaryOp .USub a pos) (f1 fa ki):=by
 refine PE.imp (Ec Fo ha) fun σ H Q ⟨r,G,si,q⟩=>⟨r,G,si,aW (aY q) fun d q1 v G1 H1 w1 r1=>?_⟩
 obtain⟨d',e,q2⟩:=cb q1;cases d with
|int i=>cases e;exact⟨i,r1.int w1.ok,q2 _ G1 H1 w1 (.scl (.int _))⟩
|_=>cases e
def fN:D->Option Bool
|.non=>some false
|.bl b=>some b
|.int i=>some (i != 0)
|.str y=>if y.length<=sizeLine then some ((y.length:Int) != 0)else none
|.lst ds=>some (! ds.isEmpty)
|.tup ds=>some (! ds.isEmpty)
|.dic kvs=>some (! kvs.isEmpty)
|.obj _ _=>none
theorem su{α β:Type}{F:α->β->Prop}{l:List α}{r:List β}(h:Paired F l r):l.isEmpty=r.isEmpty:=by cases h <;> rfl
theorem Hm{K:W.Frag}{G:GH}{H:Hp}{v:V}{d:D}{b:Bool}(gk:aI K G H)(h:RB K G H v d)(e:fN d=some b):kr K v H b:=by cases d with
|non=>cases e;rw[h.non gk];rfl
|bl b'=>cases e;rw[h.bl gk];rfl
|int i=>cases e;rw[h.int gk];rfl
|str y=>
  rw[h.str gk];have e':(if y.length<=sizeLine then some ((y.length:Int) != 0)else none)=some b:=e;by_cases hy:y.length<=sizeLine
  .rw[if_pos hy]at e';cases e';exact⟨hy,rfl⟩
  .rw[if_neg hy]at e';cases e'
|lst ds=>cases e;obtain⟨a,xs,rfl,s,r⟩:=h.lst gk;exact .inl ⟨xs,s,by rw[su r]⟩
|tup ds=>cases e;obtain⟨a,xs,rfl,s,r⟩:=h.tup gk;exact .inr (.inl ⟨xs,s,by rw[su r]⟩)
|dic kvs=>cases e;obtain⟨a,xs,rfl,s,r⟩:=h.dic gk;exact .inr (.inr ⟨xs,s,by rw[su r]⟩)
|obj _ _=>cases e
def b7(f:FE):aj->Res Bool:=fun r=>(f r).bind fun d=>bK (fN d)
theorem ik(ha:SB X g m a fa)(he:∀whole,isTrue a X.env whole=(do let v <-whole;Tc a.pos;Pv [v] (truthy v)):=by intro _;rfl):SQ X g m a (b7 fa):=by
 refine PT.imp (IY ha he) fun σ H Q ⟨r,G,si,q⟩=>⟨r,G,si,aW (aY q) fun d q1 v G1 H1 w1 r1=>?_⟩
 obtain⟨b,e,q2⟩:=cb q1;exact⟨b,Hm w1.ok r1 e,q2 G1 H1 w1⟩
abbrev FQ:=aj->Res Bool
def b8(p q:FQ):FQ:=fun r=>(p r).bind fun c=>if c=true then q r else .ok false
def js(p q:FQ):FQ:=fun r=>(p r).bind fun c=>if c=true then .ok true else q r
def cP(p:FQ):FQ:=fun r=>(p r).bind fun c=>.ok (! c)
variable{p q:FQ}{rest:List Expr}
theorem C5{α:Type}{r:Res α}{q:α->Prop}{x x':D->Prop}(h:fin r q x)(hx:∀e,x e->x' e):fin r q x':=by cases r with
|ok a=>exact h
|exc e=>exact hx e h
|stuck=>exact h
theorem d8{α:Type}{r:Res α}{σ:L2.St}{G G1:GH}{H H1:Hp}{P P':α->Prop}(h:fin r P (XW X σ G H))(w:Grow X.K G H G1 H1)(hp:∀a,P a->P' a):fin r P' (XW X σ G1 H1):=C5 (aW h hp) fun _ x=>x.grow w
theorem jJ(ha:SQ X g m a p):SW X g m (.BoolOp .And [a] pos) p:=Gs ha
theorem yy(ha:SQ X g m a p):SW X g m (.BoolOp .Or [a] pos) p:=F1 ha
theorem iT(ha:SQ X g m a p)(hb:SW X g m (.BoolOp .And (b::rest) pos) q):SW X g m (.BoolOp .And (a::b::rest) pos) (b8 p q):=by
 refine PW.imp (F0 ha hb) fun σ H Q ⟨r,G,si,k⟩=>⟨r,G,si,aW (aY k) fun c k1 G1 H1 w1=>?_⟩
 cases c with
|true=>rw[if_pos rfl]at k1 ⊢;exact⟨r,G1,si.grow w1,d8 k1 w1 fun b z G' H' w'=>z G' H' (w1.trans w')⟩
|false=>rw[if_neg i_]at k1 ⊢;exact k1 G1 H1 w1
theorem j4(ha:SQ X g m a p)(hb:SW X g m (.BoolOp .Or (b::rest) pos) q):SW X g m (.BoolOp .Or (a::b::rest) pos) (js p q):=by
 refine PW.imp (Ee ha hb) fun σ H Q ⟨r,G,si,k⟩=>⟨r,G,si,aW (aY k) fun c k1 G1 H1 w1=>?_⟩
 cases c with
|true=>rw[if_pos rfl]at k1 ⊢;exact k1 G1 H1 w1
|false=>rw[if_neg i_]at k1 ⊢;exact⟨r,G1,si.grow w1,d8 k1 w1 fun b z G' H' w'=>z G' H' (w1.trans w')⟩
theorem SW.toQ(h:SW X g m e p):SQ X g m e p:=PW.pt h
theorem jB(ha:SQ X g m a p):SQ X g m (.UnaryOp .Not a pos) (cP p):=PT.imp (EF ha) fun σ H Q ⟨r,G,si,k⟩=>⟨r,G,si,aW (aY k) fun c k1 G1 H1 w1=>k1 G1 H1 w1⟩
def eM(fa fb:FE):FE:=fun r=>(fa r).bind fun d=>(bK (gU d)).bind fun c=>if c=true then fb r else .ok (.bl false)
def jr(fa fb:FE):FE:=fun r=>(fa r).bind fun d=>(bK (gU d)).bind fun c=>if c=true then .ok (.bl true)else fb r
def jX(fa:FE):FE:=fun r=>(fa r).bind fun d=>(bK (gU d)).bind fun c=>.ok (.bl (! c))
theorem oi{op}(h:SE X g m a fa):SE X g m (.BoolOp op [a] pos) fa:=Ew h
theorem qO(ha:SE X g m a fa)(hb:SE X g m (.BoolOp .And (b::rest) pos) fb):SE X g m (.BoolOp .And (a::b::rest) pos) (eM fa fb):=by
 refine PE.imp (Ep ha hb) fun σ H Q ⟨r,G,si,k⟩=>⟨r,G,si,aW (aY k) fun d k1 v G1 H1 w1 r1=>?_⟩
 obtain⟨c,e,k2⟩:=cb (aY k1);cases d with
|bl c'=>cases e;refine⟨_,r1.bl w1.ok,?_⟩;cases c with
 |true=>rw[if_pos rfl]at k2 ⊢;exact⟨r,G1,si.grow w1,d8 k2 w1 fun b z v G' H' w'=>z v G' H' (w1.trans w')⟩
 |false=>rw[if_neg i_]at k2 ⊢;exact k2 _ G1 H1 w1 (.scl (.bl _))
|_=>cases e
theorem nc(ha:SE X g m a fa)(hb:SE X g m (.BoolOp .Or (b::rest) pos) fb):SE X g m (.BoolOp .Or (a::b::rest) pos) (jr fa fb):=by
 refine PE.imp (Eb ha hb) fun σ H Q ⟨r,G,si,k⟩=>⟨r,G,si,aW (aY k) fun d k1 v G1 H1 w1 r1=>?_⟩
 obtain⟨c,e,k2⟩:=cb (aY k1);cases d with
|bl c'=>cases e;refine⟨_,r1.bl w1.ok,?_⟩;cases c with
 |false=>rw[if_neg i_]at k2 ⊢;exact⟨r,G1,si.grow w1,d8 k2 w1 fun b z v G' H' w'=>z v G' H' (w1.trans w')⟩
 |true=>rw[if_pos rfl]at k2 ⊢;exact k2 _ G1 H1 w1 (.scl (.bl _))
|_=>cases e
theorem DN(ha:SE X g m a fa):SE X g m (.UnaryOp .Not a pos) (jX fa):=by
 refine PE.imp (Ev ha) fun σ H Q ⟨r,G,si,k⟩=>⟨r,G,si,aW (aY k) fun d k1 v G1 H1 w1 r1=>?_⟩
 obtain⟨c,e,k2⟩:=cb (aY k1);cases d with
|bl c'=>cases e;exact⟨_,r1.bl w1.ok,k2 _ G1 H1 w1 (.scl (.bl _))⟩
|_=>cases e
def jt(p:FQ)(fa fb:FE):FE:=fun r=>(p r).bind fun c=>if c=true then fa r else fb r
theorem xV(hc:SQ X g m c p)(ha:SE X g m a fa)(hb:SE X g m b fb):SE X g m (.IfExp c a b pos) (jt p fa fb):=by
 refine PE.imp (IL hc ha hb) fun σ H Q ⟨r,G,si,k⟩=>⟨r,G,si,aW (aY k) fun c k1 G1 H1 w1=>?_⟩
 cases c with
|true=>rw[if_pos rfl]at k1 ⊢;exact⟨r,G1,si.grow w1,d8 k1 w1 fun b z v G' H' w'=>z v G' H' (w1.trans w')⟩
|false=>rw[if_neg i_]at k1 ⊢;exact⟨r,G1,si.grow w1,d8 k1 w1 fun b z v G' H' w'=>z v G' H' (w1.trans w')⟩
variable{es:List Expr}{fl fr:aj->Res (List D)}
def aa:aj->Res (List D):=fun _=>.ok []
def af(fa:FE)(fl:aj->Res (List D)):aj->Res (List D):=fun r=>(fa r).bind fun d=>(fl r).bind fun ds=>.ok (d::ds)
theorem cm:SA X g m [] aa:=PA.imp je fun σ H Q ⟨r,G,si,k⟩=>k [] G H (Grow.refl si.gok) .nil
theorem bz(ha:SE X g m e fa)(hr:SA X g m es fl)(hs:j_ (e::es) X.env=(false,eval e X.env)::j_ es X.env:=by rfl):SA X g m (e::es) (af fa fl):=by
 refine PA.imp (gs ha hr hs) fun σ H Q ⟨r,G,si,k⟩=>⟨r,G,si,aW (aY k) fun d k1 v G1 H1 w1 r1=>⟨r,G1,si.grow w1,?_⟩⟩
 exact d8 (aY k1) w1 fun ds z vs G2 H2 w2 r2=>z (v::vs) G2 H2 (w1.trans w2) (.cons (r1.mono w2.ge) r2)
theorem ba:gw X g m [] aa:=PA.imp je fun σ H Q ⟨r,G,si,k⟩=>k [] G H (Grow.refl si.gok) .nil
theorem a9(ha:SB X g m e fa)(hr:gw X g m es fl)(hs:j_ (e::es) X.env=(false,eval e X.env)::j_ es X.env:=by rfl):gw X g m (e::es) (af fa fl):=by
 refine PA.imp (gs ha hr hs) fun σ H Q ⟨r,G,si,k⟩=>⟨r,G,si,aW (aY k) fun d k1 v G1 H1 w1 r1=>⟨r,G1,si.grow w1,?_⟩⟩
 exact d8 (aY k1) w1 fun ds z vs G2 H2 w2 r2=>z (v::vs) G2 H2 (w1.trans w2) (.cons (r1.mono w2) r2)
def sz(ds:List D):Option (List D):=if ds.length<=sizeLine then some ds else none
theorem qL{ds ds':List D}(h:sz ds=some ds'):ds'=ds/\ds.length<=sizeLine:=by
 unfold sz at h;split at h
 .rename_i hl;cases h;exact⟨rfl,hl⟩
 .cases h
theorem DT{ds:List D}(h:ds.length<=sizeLine):sz ds=some ds:=if_pos h
def iI(fl:aj->Res (List D)):FE:=fun r=>(fl r).bind fun ds=>(bK (sz ds)).bind fun ds=>.ok (.tup ds)
def dN(fl:aj->Res (List D)):FE:=fun r=>(fl r).bind fun ds=>(bK (sz ds)).bind fun ds=>.ok (.lst ds)
theorem lN{x1}(h:SA X g m es fl):SE X g m (.Tuple es x1 pos) (iI fl):=by
 refine PE.imp (Ey h) fun σ H Q ⟨r,G,si,k⟩=>⟨r,G,si,aW (aY k) fun ds k1 vs G1 H1 w1 r1=>?_⟩
 obtain⟨ds',e,k2⟩:=cb (aY k1);obtain⟨rfl,hl⟩:=qL e;have hlen:=Paired.length r1;refine⟨by omega,fun p hp=>?_⟩;exact k2 _ _ _ (w1.trans (Grow.newF (d:=.tup ds') w1.ok hp (.tup (.inl bT) r1))) (.ref dc)
theorem fH(h:SA X g m es fl):SO X g m (.List es pos) (dN fl):=by
 refine PE.imp (Et h) fun σ H Q ⟨r,G,si,k⟩=>⟨r,G,si,aW (aY k) fun ds k1 vs G1 H1 w1 r1=>?_⟩
 obtain⟨ds',e,k2⟩:=cb (aY k1);obtain⟨rfl,hl⟩:=qL e;have hlen:=Paired.length r1;refine⟨by omega,fun p hp=>?_⟩;have hn:H p=none:=by cases q:H p with
 |none=>rfl
 |some o=>rw[w1.he _ _ q]at hp;cases hp
 exact k2 p G1 _ (w1.trans (Grow.new w1.ok hp _)) hn ⟨w1.ok.isN hp,.lst bT r1⟩
end
def lE(K:W.Frag)(r:List V->Hp->VK->Prop)(k:List D->Option D):Prop:=∀(G:GH)(H:Hp)(vs:List V)(ds:List D)(d:D)(Q:VK),aI K G H->Paired (RB K G H) vs ds->k ds=some d ->(∀v G' H',Grow K G H G' H'->RG K G' v d->Q v H')->r vs H Q
def xC(K:W.Frag)(r:List V->Hp->VK->Prop)(k:List D->Option D):Prop:=∀(G:GH)(H:Hp)(vs:List V)(ds:List D)(d:D)(Q:VK),aI K G H->Paired (RB K G H) vs ds->k ds=some d ->(∀a G' H',Grow K G H G' H'->H a=none->Own K G' H' a d->Q (.ref a) H')->r vs H Q
def fC(fl:aj->Res (List D))(k:List D->Option D):FE:=fun r=>(fl r).bind fun ds=>bK (k ds)
theorem Grow.back{K:W.Frag}{G G1:GH}{H H1:Hp}(w:Grow K G H G1 H1){a:Addr}(hn:H1 a=none):H a=none:=by cases q:H a with
|none=>rfl
|some o=>rw[w.he _ _ q]at hn;cases hn
section
variable{X:Cx}{g:GE}{m:List Md}{e a b c:Expr}{f fa fb fc:FE}{pos p p2:Pos}{es:List Expr}{fl:aj->Res (List D)}{x:Str}{id T:String}{R:List V->Hp->VK->Prop}{k:List D->Option D}
theorem iF(hk:lE X.K R k)(h:PE X e (qf R (vM X g m fl))):SE X g m e (fC fl k):=by
 refine PE.imp h fun σ H Q ⟨r,G,si,q⟩=>⟨r,G,si,aW (aY q) fun ds q1 vs G1 H1 w1 r1=>?_⟩
 obtain⟨d,e,q2⟩:=cb q1;exact hk G1 H1 vs ds d Q w1.ok r1 e fun v G' H' w' z=>q2 v G' H' (w1.trans w') z
theorem xS(hk:xC X.K R k)(h:PE X e (qf R (vM X g m fl))):SO X g m e (fC fl k):=by
 refine PE.imp h fun σ H Q ⟨r,G,si,q⟩=>⟨r,G,si,aW (aY q) fun ds q1 vs G1 H1 w1 r1=>?_⟩
 obtain⟨d,e,q2⟩:=cb q1;exact hk G1 H1 vs ds d Q w1.ok r1 e fun v G' H' w' hn z=>q2 v G' H' (w1.trans w') (w1.back hn) z
def lenD:List D->Option D
|[.str y]=>if y.length<=sizeLine then some (.int y.length)else none
|[.lst ds]=>some (.int ds.length)
|[.tup ds]=>some (.int ds.length)
|[.dic kvs]=>some (.int kvs.length)
|_=>none
theorem EM{K:W.Frag}:lE K (fun xs H Q=>(∃x n,xs=[x]/\nS K x H n/\Q (.int n) H)\/∃a kvs,xs=[V.ref a]/\Rd H a (.dK kvs)/\Q (.int kvs.length) H) lenD:=by
 intro G H vs ds d Q gk rs e q;unfold lenD at e;split at e
 .split at e
  .cases e;cases rs with
  |cons r t=>cases t;exact .inl ⟨_,_,rfl,by rw[r.str gk];exact⟨by assumption,rfl⟩,q _ G H (Grow.refl gk) (.scl (.int _))⟩
  .cases e
 .cases e;cases rs with
 |cons r t=>cases t;obtain⟨a,xs,rfl,s,r⟩:=r.lst gk;have:=Paired.length r;exact .inl ⟨_,_,rfl,.inl ⟨xs,s,rfl⟩,q _ G H (Grow.refl gk) (.scl (by rw[this];exact .int _))⟩
 .cases e;cases rs with
 |cons r t=>cases t;obtain⟨a,xs,rfl,s,r⟩:=r.tup gk;have:=Paired.length r;exact .inl ⟨_,_,rfl,.inr ⟨xs,s,rfl⟩,q _ G H (Grow.refl gk) (.scl (by rw[this];exact .int _))⟩
 .cases e;cases rs with
 |cons r t=>cases t;obtain⟨a,xs,rfl,s,r⟩:=r.dic gk;have:=Paired.length r;exact .inr ⟨_,_,rfl,s,q _ G H (Grow.refl gk) (.scl (by rw[this];exact .int _))⟩
 .cases e
theorem dL(hg:Gl X "len")(hm:X.mg "len" = none)(ha:gw X g m (e::es) fl)(he:j_ (e::es) X.env=(false,eval e X.env)::j_ es X.env:=by rfl)(hpl:(backTo pos (j_ es X.env)).any (·.1)=false:=by rfl):SE X g m (.Call (.Name "len" p) (e::es) [] pos) (fC fl lenD):=iF EM (k4 (dw.or Ik JL) hg hm PySem.boot_len ha (by decide) (by decide) he hpl)
def jy:List D->Option D
|[.lst ds]=>some (.lst ds)
|[.tup ds]=>some (.lst ds)
|_=>none
theorem GB{K:W.Frag}:xC K (fun xs H Q=>∃p ys,xs=[.ref p]/\(aU K H p ys\/bI K H p ys)/\∀l,H l=none->Q (.ref l) (upd H l (.lst ys))) jy:=by
 intro G H vs ds d Q gk rs e q;have fin:∀{ys:List V}{zs:List D},bx K G ys zs->(∀(a:Addr)(G':GH)(H':Hp),Grow K G H G' H'->H a=none->Own K G' H' a (.lst zs)->Q (.ref a) H')->∀l,H l=none->Q (.ref l) (upd H l (.lst ys)):=fun r q l hl=>q l G _ (Grow.new gk hl _) hl ⟨gk.isN hl,.lst bT r⟩;unfold jy at e;split at e
 .cases e;cases rs with
 |cons r t=>cases t;obtain⟨a,xs,rfl,s,r⟩:=r.lst gk;exact⟨a,xs,rfl,.inl s,fin r q⟩
 .cases e;cases rs with
 |cons r t=>cases t;obtain⟨a,xs,rfl,s,r⟩:=r.tup gk;exact⟨a,xs,rfl,.inr s,fin r q⟩
 .cases e
theorem yR(hg:Gl X "list")(hm:X.mg "list" = none)(ha:gw X g m (e::es) fl)(he:j_ (e::es) X.env=(false,eval e X.env)::j_ es X.env:=by rfl)(hpl:(backTo pos (j_ es X.env)).any (·.1)=false:=by rfl):SO X g m (.Call (.Name "list" p) (e::es) [] pos) (fC fl jy):=xS GB (mI Lb hg hm rfl ha (by decide) (by decide) he hpl)
def tupD:List D->Option D
|[.lst ds]=>some (.tup ds)
|[.tup ds]=>some (.tup ds)
|_=>none
theorem Fj{K:W.Frag}:lE K (fun xs H Q=>∃p ys,xs=[.ref p]/\((aU K H p ys/\∀l,H l=none->Q (.ref l) (upd H l (.tup ys)))\/(bI K H p ys/\Q (.ref p) H))) tupD:=by
 intro G H vs ds d Q gk rs e q;unfold tupD at e;split at e
 .cases e;cases rs with
 |cons r t=>cases t;obtain⟨a,xs,rfl,s,r⟩:=r.lst gk;exact⟨a,xs,rfl,.inl ⟨s,fun l hl=>q _ _ _ (Grow.newF gk hl (.tup (.inl bT) r)) (.ref dc)⟩⟩
 .cases e;cases rs with
 |cons r t=>
   cases t;rcases r with r|⟨a,_,o⟩
   .obtain⟨a,xs,rfl,s,r'⟩:=r.tup gk;exact⟨a,xs,rfl,.inr ⟨s,q _ G H (Grow.refl gk) r⟩⟩
   .cases o.ob
 .cases e
theorem hU(hg:Gl X "tuple")(hm:X.mg "tuple" = none)(ha:gw X g m (e::es) fl)(he:j_ (e::es) X.env=(false,eval e X.env)::j_ es X.env:=by rfl)(hpl:(backTo pos (j_ es X.env)).any (·.1)=false:=by rfl):SE X g m (.Call (.Name "tuple" p) (e::es) [] pos) (fC fl tupD):=iF Fj (mI Lv hg hm rfl ha (by decide) (by decide) he hpl)
def ixD:D->D->Option D
|.lst ds,.int i=>eh ds i
|.tup ds,.int i=>eh ds i
|.str z,.int i=>if z.length<=sizeLine then(eh z.cps.toList i).map fun c=>.str ⟨#[c]⟩else none
|_,_=>none
theorem wO{K:W.Frag}{G:GH}{xs:List V}{ds:List D}{i:Int}{d:D}(r:bx K G xs ds)(h:eh ds i=some d):∃v,eh xs i=some v/\RG K G v d:=by unfold eh at h ⊢;rw[Paired.length r];cases e:fV ds.length i with
|none=>rw[e]at h;cases h
|some j=>rw[e]at h;exact Paired.get r h
theorem qF{K:W.Frag}:cH K (vW K) ixD:=by
 intro G H v1 v2 d1 d2 d Q gk r1 r2 e q;unfold ixD at e;split at e
 .obtain⟨a,xs,rfl,s,r⟩:=r1.lst gk;obtain⟨v,ev,rv⟩:=wO r e;exact .inl ⟨a,xs,_,v,rfl,r2.int gk,s,ev,q v G H (Grow.refl gk) rv⟩
 .obtain⟨a,xs,rfl,s,r⟩:=r1.tup gk;obtain⟨v,ev,rv⟩:=wO r e;exact .inr (.inl ⟨a,xs,_,v,rfl,r2.int gk,s,ev,q v G H (Grow.refl gk) rv⟩)
 .split at e
  .rename_i z i hz;cases ec:eh z.cps.toList i with
  |none=>rw[ec]at e;cases e
  |some c=>rw[ec]at e;cases e;exact .inr (.inr ⟨z,i,c,r1.str gk,r2.int gk,hz,ec,q _ G H (Grow.refl gk) (.scl (.str _))⟩)
  .cases e
 .cases e
def b3{α:Type}(xs:List α)(lo hi:Option Int):List α:=(xs.drop (HT.sIx xs.length 0 lo)).take (HT.sIx xs.length xs.length hi-HT.sIx xs.length 0 lo)
theorem nV{α β:Type}{F:α->β->Prop}{xs:List α}{ds:List β}(r:Paired F xs ds)(lo hi:Option Int):Paired F (b3 xs lo hi) (b3 ds lo hi):=by unfold b3;rw[Paired.length r];exact Paired.tk _ (Paired.dr _ r)
abbrev FP:=aj->Res (Option Int)
def tP(X:Cx)(g:GE)(m:List Md)(f:FP):TO:=fun σ H Q=>∃r G,SI X g m r G σ H/\fin (f r) (fun o=>∀G' H',Grow X.K G H G' H'->Q o H') (XW X σ G H)
def lA(X:Cx)(g:GE)(m:List Md)(e:Option Expr)(f:FP):Prop:=PO X e (tP X g m f)
theorem PO.imp{X:Cx}{e:Option Expr}{t t':TO}(h:PO X e t)(i:∀σ H Q,t' σ H Q->t σ H Q):PO X e t':=fun pz s σ H Q I q=>h pz s σ H Q I (i σ H Q q)
def Mm:D->Option Int
|.int i=>some i
|_=>none
def kJ(f:FE):FP:=fun r=>(f r).bind fun d=>(bK (Mm d)).bind fun i=>.ok (some i)
theorem rh:lA X g m none fun _=>.ok none:=PO.imp Gn fun σ H Q ⟨r,G,si,q⟩=>q G H (Grow.refl si.gok)
theorem rj(h:SB X g m e f):lA X g m (some e) (kJ f):=by
 refine PO.imp (Go h) fun σ H Q ⟨r,G,si,q⟩=>⟨r,G,si,aW (aY q) fun d q1 v G1 H1 w1 r1=>?_⟩
 obtain⟨i,e,q2⟩:=cb (aY q1);cases d with
|int j=>cases e;exact⟨_,r1.int w1.ok,q2 G1 H1 w1⟩
|_=>cases e
def nb(d:D)(lo hi:Option Int):Option D:=match d with
|.tup ds=>if HT.sIx ds.length 0 lo=0/\HT.sIx ds.length ds.length hi=ds.length then none else some (.tup (b3 ds lo hi))
|.lst ds=>some (.lst (b3 ds lo hi))
|_=>none
def ly(fa:FE)(fl fh:FP):FE:=fun r=>(fa r).bind fun d=>(fl r).bind fun lo=>(fh r).bind fun hi=>bK (nb d lo hi)
theorem FV{R:V->Option Int->Option Int->Hp->Prop}{fl fh:FP}{r:aj}{G:GH}{σ:L2.St}{H:Hp}{q:D->Prop}(si:SI X g m r G σ H)(h:fin (ly fa fl fh r) q (XW X σ G H))(hk:∀d lo hi v G2 H2 d',Grow X.K G H G2 H2->RB X.K G2 H2 v d->nb d lo hi=some d'->q d'->R v lo hi H2):tB X g m fa σ H fun x H1=>tP X g m fl σ H1 fun l H2=>tP X g m fh σ H2 fun u H3=>R x l u H3:=by refine⟨r,G,si,aW (aY h) fun d h1 v G1 H1 w1 r1=>⟨r,G1,si.grow w1,d8 (aY h1) w1 fun lo h2 G2 H2 w2=>⟨r,G2,(si.grow w1).grow w2,?_⟩⟩⟩;refine d8 (aY h2) (w1.trans w2) fun hi h3 G3 H3 w3=>?_;obtain⟨d',e,h4⟩:=cb h3;exact hk d lo hi v G3 H3 d' ((w1.trans w2).trans w3) ((r1.mono w2).mono w3) e h4
theorem xX{lo hi:Option Expr}{fl fh:FP}(he:SB X g m e f)(hl:lA X g m lo fl)(hu:lA X g m hi fh):SE X g m (.Subscript e (.Slice lo hi none p2) pos) (ly f fl fh):=by refine PE.imp (A2 (gW.or zX y6) he hl hu) fun σ H Q ⟨r,G,si,q⟩=>?_;refine FV si q fun d lo hi v G2 H2 d' w r1 e q2=>?_;cases d with
|tup ds=>
  obtain⟨a,xs,rfl,s,r⟩:=r1.tup w.ok;have e':(if HT.sIx ds.length 0 lo=0/\HT.sIx ds.length ds.length hi=ds.length then none else some (D.tup (b3 ds lo hi)))=some d':=e;by_cases hw:HT.sIx ds.length 0 lo=0/\HT.sIx ds.length ds.length hi=ds.length
  .rw[if_pos hw]at e';cases e'
  rw[if_neg hw]at e';cases e';rw[<-Paired.length r]at hw;refine .inr ⟨a,xs,rfl,s,hw,fun p hp=>?_⟩;exact q2 _ _ _ (w.trans (Grow.newF w.ok hp (.tup (.inl bT) (nV r lo hi)))) (.ref dc)
|lst ds=>cases e;obtain⟨a,xs,rfl,s,r⟩:=r1.lst w.ok;exact .inl ⟨a,xs,rfl,s,fun p hp=>q2 _ _ _ (w.trans (Grow.newF w.ok hp (.lst (.inl bT) (nV r lo hi)))) (.ref dc)⟩
|_=>cases e
end
inductive Out where
 |nx (r:aj)|rt (d:D)|bk (r:aj)|ct (r:aj)|exc (x:D) (r:aj)|stuck
abbrev FS:=aj->Out
def aM(G G':GH):Prop:=∀a d,G a=some d->G' a=some d
theorem aM.refl(G:GH):aM G G:=fun _ _ e=>e
theorem aM.trans{G G1 G2:GH}(a:aM G G1)(b:aM G1 G2):aM G G2:=fun x d e=>b x d (a x d e)
def forget(m:List Md)(r:aj):aj:=List.zipWith (fun md o=>if md=Md.sh then o else none) m r
def b4(m:List Md):List Md:=m.map fun _=>Md.sh
theorem mG{m:List Md}{r:aj}{i:Nat}{d:D}(h:(forget m r)[i]? = some (some d)):r[i]? = some (some d)/\m[i]? = some .sh:=by unfold forget at h;rw[List.getElem?_zipWith]at h;cases e1:m[i]? with
|none=>rw[e1]at h;cases h
|some md=>cases e2:r[i]? with
 |none=>rw[e1,e2]at h;cases h
 |some o=>
   rw[e1,e2]at h;have h':(if md=Md.sh then o else none)=some d:=C_ h;split at h'
   .rename_i hm;subst hm;rw[h'];exact⟨rfl,rfl⟩
   .cases h'
section
variable{X:Cx}{g:GE}{m:List Md}{r:aj}{G:GH}{st:L2.St}{H:Hp}
theorem SI.forget(s:SI X g m r G st H):SI X g (b4 m) (forget m r) G st H where
 gok:=s.gok
 old:=s.old
 ge:=s.ge
 gf:=s.gf
 lm:=by rw[b4,l_];exact s.lm
 lr:=by rw[DL.forget,List.length_zipWith,s.lm,s.lr,Nat.min_self]
 sh:=fun i d h _=>s.sh i d (mG h).1 (mG h).2
 ow:=fun i d h hm=>by rw[b4,x_,(mG h).2]at hm;cases hm
 bw:=fun i d h hm=>by rw[b4,x_,(mG h).2]at hm;cases hm
 dis:=fun i j a d e _ h _ hm=>by rw[b4,x_,(mG h).2]at hm;cases hm
 lk:=fun i o _ hm=>by rw[b4,x_]at hm;cases q:m[i]? <;> rw[q]at hm <;> cases hm
theorem SI.set(s:SI X g m r G st H)(i:Nat){v:V}{d:D}(hv:RG X.K G v d):SI X g (m.set i .sh) (r.set i (some d)) G (st.set i (some v)) H where
 gok:=s.gok
 old:=s.old
 ge:=s.ge
 gf:=s.gf
 lm:=by simp[s.lm]
 lr:=by simp[s.lr]
 sh:=fun j e h hm=>by
  by_cases hij:i=j
  .subst hij;have hl:i<r.length:=by have:=(h_.mp h).1;simpa using this
   rw[o_ hl]at h;cases h;exact⟨v,by rw[o_ (by rw[<-s.lr];exact hl)],hv⟩
  .rw[d_ hij]at h hm;rw[d_ hij];exact s.sh j e h hm
 ow:=fun j e h hm=>by
  by_cases hij:i=j
  .subst hij;have hl:i<m.length:=by have:=(h_.mp hm).1;simpa using this
   rw[o_ hl]at hm;cases hm
  .rw[d_ hij]at h hm;rw[d_ hij];exact s.ow j e h hm
 bw:=fun j e h hm=>by
  by_cases hij:i=j
  .subst hij;have hl:i<m.length:=by have:=(h_.mp hm).1;simpa using this
   rw[o_ hl]at hm;cases hm
  .rw[d_ hij]at h hm;rw[d_ hij];exact s.bw j e h hm
 dis:=fun j k a d1 d2 hjk h1 h2 hm hm' q1 q2=>by
  have hij:i≠j:=by
   rintro rfl
   have hl:i<m.length:=by have:=(h_.mp hm).1;simpa using this
   rw[o_ hl]at hm;cases hm
  have hik:i≠k:=by
   rintro rfl
   have hl:i<m.length:=by have:=(h_.mp h2).1;rw[NC,s.lr,<-s.lm]at this;exact this
   rw[o_ hl]at hm';cases hm'
  rw[d_ hij]at h1 hm q1;rw[d_ hik]at h2 hm' q2;exact s.dis j k a d1 d2 hjk h1 h2 hm hm' q1 q2
 lk:=fun j o hj hm=>by
  have hij:i≠j:=by
   rintro rfl
   have hl:i<m.length:=by have:=(h_.mp hm).1;simpa using this
   rw[o_ hl]at hm;cases hm
  rw[d_ hij]at hm;have:=s.lk j o hj hm;exact⟨by rw[d_ hij];exact this.1,fun d h=>this.2 d (by rw[d_ hij]at h;exact h)⟩
theorem SI.setO(s:SI X g m r G st H)(i:Nat){a:Addr}{d:D}(ho:Own X.K G H a d)(h0:g.h0 a=none)(hx:∀(j:Nat)(b:Addr)(e:D),r[j]? = some (some e)->m[j]? = some Md.ow->st[j]? = some (some (V.ref b))->b≠a):SI X g (m.set i .ow) (r.set i (some d)) G (st.set i (some (V.ref a))) H where
 gok:=s.gok
 old:=s.old
 ge:=s.ge
 gf:=s.gf
 lm:=by simp[s.lm]
 lr:=by simp[s.lr]
 sh:=fun j e h hm=>by
  by_cases hij:i=j
  .subst hij;have hl:i<m.length:=by have:=(h_.mp hm).1;simpa using this
   rw[o_ hl]at hm;cases hm
  .rw[d_ hij]at h hm;rw[d_ hij];exact s.sh j e h hm
 ow:=fun j e h hm=>by
  by_cases hij:i=j
  .subst hij;have hl:i<r.length:=by have:=(h_.mp h).1;simpa using this
   rw[o_ hl]at h;cases h;exact⟨a,by rw[o_ (by rw[<-s.lr];exact hl)],ho,h0⟩
  .rw[d_ hij]at h hm;rw[d_ hij];exact s.ow j e h hm
 bw:=fun j e h hm=>by
  by_cases hij:i=j
  .subst hij;have hl:i<m.length:=by have:=(h_.mp hm).1;simpa using this
   rw[o_ hl]at hm;cases hm
  .rw[d_ hij]at h hm;rw[d_ hij];exact s.bw j e h hm
 dis:=fun j k b d1 d2 hjk h1 h2 hm hm' q1 q2=>by
  by_cases hij:i=j
  .subst hij;rw[d_ hjk]at h2 hm' q2;have hl:i<st.length:=by have:=(h_.mp q1).1;simpa using this
   rw[o_ hl]at q1;have e:a=b:=by injection q1 with q1;injection q1 with q1;injection q1
   exact hx k b d2 h2 hm' q2 e.symm
  .by_cases hik:i=k
   .subst hik;rw[d_ hij]at h1 hm q1;have hl:i<st.length:=by have:=(h_.mp q2).1;simpa using this
    rw[o_ hl]at q2;have e:a=b:=by injection q2 with q2;injection q2 with q2;injection q2
    exact hx j b d1 h1 hm q1 e.symm
   .rw[d_ hij]at h1 hm q1;rw[d_ hik]at h2 hm' q2;exact s.dis j k b d1 d2 hjk h1 h2 hm hm' q1 q2
 lk:=fun j o hj hm=>by
  have hij:i≠j:=by
   rintro rfl
   have hl:i<m.length:=by have:=(h_.mp hm).1;simpa using this
   rw[o_ hl]at hm;cases hm
  rw[d_ hij]at hm;have:=s.lk j o hj hm;exact⟨by rw[d_ hij];exact this.1,fun d h=>this.2 d (by rw[d_ hij]at h;exact h)⟩
theorem SI.other(s:SI X g m r G st H){p:Addr}(hp:G p=none)(h0:g.h0 p=none)(hm:∀(i:Nat),m[i]?≠some Md.ow)(o:HO):SI X g m r G st (upd H p o) where
 gok:=fun b e h=>(s.gok b e h).mono (fun _ _ z=>z) fun o' q=>by rw[aZ (by rintro rfl;rw[hp]at h;cases h)];exact q
 old:=fun b o' h=>by rw[aZ (by rintro rfl;rw[h0]at h;cases h)];exact s.old b o' h
 ge:=s.ge
 gf:=s.gf
 lm:=s.lm
 lr:=s.lr
 sh:=s.sh
 ow:=fun i d _ h=>absurd h (hm i)
 bw:=fun i d h1 h2=>by
  obtain⟨v,h3,h4⟩:=s.bw i d h1 h2;refine⟨v,h3,?_⟩;rcases h4 with h4|⟨a,rfl,h4,h5⟩
  .exact .inl h4
  .have ha:a≠p:=by rintro rfl;exact h5 h0
   exact .inr ⟨a,rfl,⟨h4.un,h4.ob.mono (fun _ _ z=>z) fun o' z=>by rw[aZ ha];exact z⟩,h5⟩
 dis:=fun i j a d e _ _ _ h=>absurd h (hm i)
 lk:=s.lk
theorem SI.less(s:SI X g m r G st H){r':aj}(hl:r'.length=r.length)(h:∀(i:Nat) d,r'[i]? = some (some d)->r[i]? = some (some d)):SI X g m r' G st H:=⟨s.gok,s.old,s.ge,s.gf,s.lm,hl.trans s.lr,fun i d a b=>s.sh i d (h i d a) b,fun i d a b=>s.ow i d (h i d a) b,fun i d a b=>s.bw i d (h i d a) b,fun i j a d e n p q x y=>s.dis i j a d e n (h i d p) (h j e q) x y,fun i o hi hm=>by have:=s.lk i o hi hm;exact⟨this.1,fun d hd=>this.2 d (h i d hd)⟩⟩
theorem SI.held(s:SI X g m r G st H){j:Nat}{b:Addr}{e:D}(h:r[j]? = some (some e))(hm:m[j]? = some .ow)(hs:st[j]? = some (some (V.ref b))):H b≠none:=by
 obtain⟨a,h1,h2,_⟩:=s.ow j e h hm;rw[hs]at h1;injection h1 with h1;injection h1 with h1;injection h1 with h1
 rw[h1];exact h2.ob.isS
theorem SI.new(s:SI X g m r G st H){a:Addr}(hn:H a=none):g.h0 a=none:=by cases q:g.h0 a with
|none=>rfl
|some o=>rw[s.old _ _ q]at hn;cases hn
theorem SI.setN(s:SI X g m r G st H){G':GH}{H':Hp}(w:Grow X.K G H G' H')(i:Nat){a:Addr}{d:D}(hn:H a=none)(ho:Own X.K G' H' a d):SI X g (m.set i .ow) (r.set i (some d)) G' (st.set i (some (V.ref a))) H':=by
 refine(s.grow w).setO i ho ?_ fun j b e h1 h2 h3=>?_
 .cases q:g.h0 a with
 |none=>rfl
 |some o=>rw[s.old _ _ q]at hn;cases hn
 .rintro rfl
  exact s.held h1 h2 h3 hn
theorem SI.mut(s:SI X g m r G st H){i:Nat}{d:D}(hm:m[i]? = some .ow)(hd:r[i]? = some (some d)):∃a,st[i]? = some (some (V.ref a))/\Own X.K G H a d/\∀(o':HO)(d':D),OwnO X.K G (upd H a o') a d'->SI X g m (r.set i (some d')) G st (upd H a o'):=by
 obtain⟨a,h1,h2,h3⟩:=s.ow i d hd hm;have hl:i<r.length:=(h_.mp hd).1;refine⟨a,h1,h2,fun o' d' ob=>?_⟩;have oth:∀(j:Nat)(b:Addr)(e:D),j≠i->r[j]? = some (some e)->m[j]? = some .ow->st[j]? = some (some (V.ref b))->b≠a:=fun j b e hj q1 q2 q3 z=>by subst z;exact s.dis i j b d e (NO hj) hd q1 hm q2 h1 q3
 refine⟨fun b e h=>?_,fun b o h=>?_,s.ge,s.gf,s.lm,by simp[s.lr],?_,?_,?_,?_,fun j o hj hm'=>?_⟩
 .have hb:b≠a:=by rintro rfl;rw[h2.un]at h;cases h
  exact(s.gok b e h).mono (fun _ _ z=>z) fun o q=>by rw[aZ hb];exact q
 .have hb:b≠a:=by rintro rfl;rw[h3]at h;cases h
  rw[aZ hb];exact s.old b o h
 .intro j e h hm';have hij:i≠j:=by rintro rfl;rw[hm]at hm';cases hm'
  rw[d_ hij]at h;exact s.sh j e h hm'
 .intro j e h hm';by_cases hij:i=j
  .subst hij;rw[o_ hl]at h;cases h;exact⟨a,h1,⟨h2.un,ob⟩,h3⟩
  .rw[d_ hij]at h;obtain⟨b,q1,q2,q3⟩:=s.ow j e h hm';have hb:=oth j b e (NO hij) h hm' q1;exact⟨b,q1,⟨q2.un,q2.ob.mono (fun _ _ z=>z) fun o z=>by rw[aZ hb];exact z⟩,q3⟩
 .intro j e h hm';have hij:i≠j:=by rintro rfl;rw[hm]at hm';cases hm'
  rw[d_ hij]at h;obtain⟨v,q1,q2⟩:=s.bw j e h hm';refine⟨v,q1,?_⟩;rcases q2 with q2|⟨b,rfl,q2,q3⟩
  .exact .inl q2
  .have hb:b≠a:=by rintro rfl;exact q3 h3
   exact .inr ⟨b,rfl,⟨q2.un,q2.ob.mono (fun _ _ z=>z) fun o z=>by rw[aZ hb];exact z⟩,q3⟩
 .have bound:∀(j:Nat) e,(r.set i (some d'))[j]? = some (some e)->∃e',r[j]? = some (some e'):=fun j e h=>by
   by_cases hij:i=j
   .subst hij;exact⟨d,hd⟩
   .rw[d_ hij]at h;exact⟨e,h⟩
  intro j k b d1 d2 hjk q1 q2 p1 p2 z1 z2;obtain⟨e1,q1⟩:=bound j d1 q1;obtain⟨e2,q2⟩:=bound k d2 q2;exact s.dis j k b e1 e2 hjk q1 q2 p1 p2 z1 z2
 .have hij:i≠j:=by rintro rfl;rw[hm]at hm';cases hm'
  have:=s.lk j o hj hm';exact⟨this.1,fun d'' h=>this.2 d'' (by rw[d_ hij]at h;exact h)⟩
end
def RV(ro:Bool)(K:W.Frag)(H0:Hp)(G:GH)(H:Hp)(v:V)(d:D):Prop:=match ro with
|false=>RG K G v d
|true=>(∃a,v=.ref a/\H0 a=none/\Own K G H a d)\/(d=.non/\v=.non)
def bG(X:Cx)(g:GE)(ro:Bool)(m' mb:List Md)(G:GH)(D:Ends):Out->Prop
|.nx r'=>∀σ' G' H',aM G G'->SI X g m' r' G' σ' H'->D.nx σ' H'
|.rt d=>∀v G' H',Grow X.K g.gh g.h0 G' H'->RV ro X.K g.h0 G' H' v d->D.rt v H'
|.bk r'=>∀σ' G' H',aM G G'->SI X g mb r' G' σ' H'->D.bk σ' H'
|.ct r'=>∀σ' G' H',aM G G'->SI X g mb r' G' σ' H'->D.ct σ' H'
|.exc x r'=>∀pz e s' σ' G' H',aM G G'->SI X g (b4 m') r' G' σ' H'->Inv X pz σ' H' s'->CY X σ' G' H' e x s'->X.xe e s'
|.stuck=>False
def tS(X:Cx)(g:GE)(ro:Bool)(m m' mb:List Md)(f:FS):TS:=fun D σ H=>∃r G,SI X g m r G σ H/\bG X g ro m' mb G D (f r)
def SS(X:Cx)(g:GE)(ro:Bool)(mb m:List Md)(st:Stmt)(f:FS)(m':List Md):Prop:=m'.length=m.length/\PS X st (tS X g ro m m' mb f)
def cZ(X:Cx)(g:GE)(ro:Bool)(mb m:List Md)(st:List Stmt)(f:FS)(m':List Md):Prop:=m'.length=m.length/\c6 X st (tS X g ro m m' mb f)
theorem pi{m m':List Md}(h:m'.length=m.length):b4 m'=b4 m:=by unfold b4;rw[O6,O6,h]
theorem bG.x{X:Cx}{g:GE}{ro:Bool}{m m' mb:List Md}{r:aj}{G:GH}{D:Ends}{σ:L2.St}{H:Hp}{x:DL.D}(h:bG X g ro m' mb G D (.exc x (forget m r)))(si:SI X g m r G σ H)(hl:m'.length=m.length):XW X σ G H x:=fun pz e s' G' H' w I ex=>h pz e s' σ G' H' w.ge (by rw[pi hl];exact(si.grow w).forget) I ex
section
variable{X:Cx}{g:GE}{ro:Bool}{m m' m1 mb:List Md}{e a b c tg:Expr}{f fa fb fc:FE}{p:FQ}{pos pos':Pos}{st:Stmt}{sts sts':List Stmt}{s1 s2:FS}
theorem bG.gle{G G1:GH}{D:Ends}{o:Out}(h:bG X g ro m' mb G D o)(w:aM G G1):bG X g ro m' mb G1 D o:=by cases o with
|nx r'=>exact fun σ' G' H' q si=>h σ' G' H' (w.trans q) si
|rt d=>exact h
|bk r'=>exact fun σ' G' H' q si=>h σ' G' H' (w.trans q) si
|ct r'=>exact fun σ' G' H' q si=>h σ' G' H' (w.trans q) si
|exc x r'=>exact fun pz e s' σ' G' H' q=>h pz e s' σ' G' H' (w.trans q)
|stuck=>exact h
def seqF(s1 s2:FS):FS:=fun r=>match s1 r with
|.nx r'=>s2 r'
|o=>o
def aw:FS:=fun r=>.nx r
theorem ax:cZ X g ro mb m [] aw m:=⟨rfl,c6.imp Gp fun D σ H ⟨r,G,si,q⟩=>q σ G H (aM.refl G) si⟩
theorem al(h1:SS X g ro mb m st s1 m1)(h2:cZ X g ro mb m1 sts s2 m'):cZ X g ro mb m (st::sts) (seqF s1 s2) m':=by refine⟨h2.1.trans h1.1,c6.imp (IX h1.2 h2.2) fun D σ H ⟨r,G,si,q⟩=>⟨r,G,si,?_⟩⟩;unfold seqF at q;cases e:s1 r with
|nx r'=>rw[e]at q;exact fun σ' G' H' w si'=>⟨r',G',si',bG.gle q w⟩
|rt d=>rw[e]at q;exact q
|bk r'=>rw[e]at q;exact q
|ct r'=>rw[e]at q;exact q
|exc x r'=>rw[e]at q;exact fun pz e s' σ' G' H' w si'=>q pz e s' σ' G' H' w (by rw[pi h2.1];exact si')
|stuck=>rw[e]at q;exact q
theorem oN:SS X g ro mb m st (fun _=>.stuck) m:=⟨rfl,PS.imp IV fun D σ H ⟨r,G,si,q⟩=>q⟩
theorem AS:cZ X g ro mb m sts (fun _=>.stuck) m:=⟨rfl,c6.imp J5 fun D σ H ⟨r,G,si,q⟩=>q⟩
theorem qI(i:Nat)(hi:m[i]? = some .ow)(h:SS X g ro mb (m.set i .sh) st s1 m'):SS X g ro mb m st s1 m':=by
 refine⟨h.1.trans (by simp),fun pz s σ H D I ⟨r,G,si,q⟩=>?_⟩;rcases si.frz i hi with⟨G',le,si'⟩|⟨a,z⟩
 .exact h.2 pz s σ H D I ⟨r,G',si',bG.gle q le⟩
 .obtain⟨ob,I2⟩:=Inv.fast I a;obtain⟨G',le,si'⟩:=z ob;exact h.2 pz s σ _ D I2 ⟨r,G',si',bG.gle q le⟩
def onE{α:Type}(m:List Md)(r:aj)(x:Res α)(k:α->Out):Out:=match x with
|.ok a=>k a
|.exc e=>.exc e (forget m r)
|.stuck=>.stuck
@[simp] theorem onE_ok{α:Type}(m:List Md)(r:aj)(a:α)(k:α->Out):onE m r (.ok a) k=k a:=rfl
theorem fw{α:Type}{x:Res α}{k:α->Out}{r:aj}{G:GH}{D:Ends}{σ:L2.St}{H:Hp}(si:SI X g m r G σ H)(hl:m'.length=m.length)(h:bG X g ro m' mb G D (onE m r x k)):fin x (fun a=>bG X g ro m' mb G D (k a)) (XW X σ G H):=by cases x with
|ok a=>exact h
|exc e=>exact bG.x h si hl
|stuck=>exact h
def ap(m:List Md)(i:Nat)(f:FE):FS:=fun r=>onE m r (f r) fun d=>.nx (r.set i (some d))
theorem DP(i:Nat){x:Str}(hN:X.N.Nodup)(hi:X.N[i]? = some x)(hx:gZ X.env.scope x)(he:SE X g m e f)(hs:Pc e (some (.Name x pos')) pos.line X.env=pure false:=by rfl)(hf:X.fn x=true\/X.env.scope.names.lookup x=some .local:=by first|exact .inl rfl|exact .inr rfl|assumption):SS X g ro mb m (.Assign [.Name x pos'] e pos) (ap m i f) (m.set i .sh):=by
 have hl:(m.set i .sh).length=m.length:=by simp
 refine⟨hl,PS.imp (yT hN hi hx he hs hf) fun D σ H ⟨r,G,si,q⟩=>⟨r,G,si,?_⟩⟩;exact aW (fw si hl q) fun d q v G' H' w rv=>q _ G' H' w.ge ((si.grow w).set i rv)
theorem d6(i:Nat){x:Str}(hN:X.N.Nodup)(hi:X.N[i]? = some x)(hx:gZ X.env.scope x)(he:SO X g m e f)(hs:Pc e (some (.Name x pos')) pos.line X.env=pure false:=by rfl)(hf:X.fn x=true\/X.env.scope.names.lookup x=some .local:=by first|exact .inl rfl|exact .inr rfl|assumption):SS X g ro mb m (.Assign [.Name x pos'] e pos) (ap m i f) (m.set i .ow):=by
 have hl:(m.set i .ow).length=m.length:=by simp
 refine⟨hl,PS.imp (yT hN hi hx he hs hf) fun D σ H ⟨r,G,si,q⟩=>⟨r,G,si,?_⟩⟩;exact aW (fw si hl q) fun d q a G' H' w hn ho=>q _ G' H' w.ge (si.setN w i hn ho)
def fF(m:List Md)(f:FE):FS:=fun r=>onE m r (f r) fun _=>.nx r
theorem i6(he:SE X g m e f)(hs:Pc e none pos.line X.env=pure false:=by rfl):SS X g ro mb m (.Expr e pos) (fF m f) m:=⟨rfl,PS.imp (z8 he hs) fun D σ H ⟨r,G,si,q⟩=>⟨r,G,si,aW (fw si rfl q) fun d q v G' H' w _=>q σ G' H' w.ge (si.grow w)⟩⟩
def retF(m:List Md)(f:FE):FS:=fun r=>onE m r (f r) fun d=>.rt d
theorem bg(he:SE X g m e f):SS X g false mb m (.Return (some e) pos) (retF m f) m:=⟨rfl,PS.imp (EE he) fun D σ H ⟨r,G,si,q⟩=>⟨r,G,si,aW (fw si rfl q) fun d q v G' H' w rv=>q v G' H' (si.grow w).grown rv⟩⟩
def cG(m:List Md)(p:FQ)(s1 s2:FS):FS:=fun r=>onE m r (p r) fun c=>if c=true then s1 r else s2 r
theorem bp(hc:SQ X g m c p)(h1:cZ X g ro mb m sts s1 m')(h2:cZ X g ro mb m sts' s2 m'):SS X g ro mb m (.If c sts sts' pos) (cG m p s1 s2) m':=by refine⟨h1.1,PS.imp (Ed hc h1.2 h2.2) fun D σ H ⟨r,G,si,q⟩=>⟨r,G,si,aW (fw si h1.1 q) fun c q G' H' w=>?_⟩⟩;cases c with
|true=>rw[if_pos rfl]at q ⊢;exact⟨r,G',si.grow w,bG.gle q w.ge⟩
|false=>rw[if_neg i_]at q ⊢;exact⟨r,G',si.grow w,bG.gle q w.ge⟩
theorem By(i:Nat)(h:cZ X g ro mb m sts s1 m')(hi:m'[i]? = some .ow):cZ X g ro mb m sts s1 (m'.set i .sh):=by
 refine⟨by simp[h.1],fun pz s σ H D I ⟨r,G,si,q⟩=>?_⟩;refine aG (h.2 pz s σ H ⟨fun σ' H'=>D.nx σ' H'\/∃a,∀ob,D.nx σ' (fz H' a ob),D.rt,D.bk,D.ct⟩ I ⟨r,G,si,?_⟩) fun f s' p=>?_
 .cases e:s1 r with
 |nx r'=>
   rw[e]at q;intro σ' G' H' w si';rcases si'.frz i hi with⟨G2,le,si2⟩|⟨a,z⟩
   .exact .inl (q σ' G2 H' (w.trans le) si2)
   .refine .inr ⟨a,fun ob=>?_⟩;obtain⟨G2,le,si2⟩:=z ob;exact q σ' G2 _ (w.trans le) si2
 |rt d=>rw[e]at q;exact q
 |bk r'=>rw[e]at q;exact q
 |ct r'=>rw[e]at q;exact q
 |exc x r'=>rw[e]at q;exact fun pz e s' σ' G' H' w si'=>q pz e s' σ' G' H' w (by rw[pi (m:=m') (by simp)];exact si')
 |stuck=>rw[e]at q;exact q
 .cases f with
 |next=>
   obtain⟨σ',H',I',z|⟨a,z⟩⟩:=p
   .exact⟨σ',H',I',z⟩
   .obtain⟨ob,I2⟩:=Inv.fast I' a;exact⟨σ',_,I2,z ob⟩
 |brk=>exact p
 |cont=>exact p
 |ret u=>exact p
end
abbrev FT:=D->aj->Option aj
abbrev kz:=List D->aj->Option aj
def tG(X:Cx)(g:GE)(m m':List Md)(ft:FT):TG:=fun v σ H Q=>∃r G d,SI X g m r G σ H/\RG X.K G v d/\∃r',ft d r=some r'/\∀σ',SI X g m' r' G σ' H->Q σ' H
def Mf(X:Cx)(g:GE)(m m':List Md)(ft:kz):ig:=fun vs σ H Q=>∃r G ds,SI X g m r G σ H/\bx X.K G vs ds/\∃r',ft ds r=some r'/\∀σ',SI X g m' r' G σ' H->Q σ' H
theorem PG.imp{X:Cx}{e:Expr}{t t':TG}(h:PG X e t)(i:∀v σ H Q,t' v σ H Q->t v σ H Q):PG X e t':=fun pz s σ H v u Q I r q=>h pz s σ H v u Q I r (i v σ H Q q)
theorem gY.imp{X:Cx}{e:List Expr}{t t':ig}(h:gY X e t)(i:∀v σ H Q,t' v σ H Q->t v σ H Q):gY X e t':=fun pz s σ H v u Q I r q=>h pz s σ H v u Q I r (i v σ H Q q)
def SG(X:Cx)(g:GE)(m:List Md)(tg:Expr)(ft:FT)(m':List Md):Prop:=m'.length=m.length/\PG X tg (tG X g m m' ft)
structure SGs(X:Cx)(g:GE)(m:List Md)(ts:List Expr)(n:Nat)(ft:kz)(m':List Md):Prop where
 ml:m'.length=m.length
 ln:∀ds r r',ft ds r=some r'->ds.length=n
 pg:gY X ts (Mf X g m m' ft)
def aS(i:Nat):FT:=fun d r=>some (r.set i (some d))
def nI(ft:kz):FT:=fun d r=>match d with
|.tup ds=>ft ds r
|.lst ds=>ft ds r
|_=>none
def lK:kz:=fun ds r=>match ds with
|[]=>some r
|_=>none
def io(ft:FT)(fts:kz):kz:=fun ds r=>match ds with
|[]=>none
|d::ds=>(ft d r).bind fun r'=>fts ds r'
section
variable{X:Cx}{g:GE}{m m' m1:List Md}{tg:Expr}{ts:List Expr}{ft:FT}{fts:kz}{pos:Pos}{n:Nat}
theorem DJ(i:Nat){x:Str}(hN:X.N.Nodup)(hi:X.N[i]? = some x)(hx:gZ X.env.scope x)(hf:X.fn x=true\/X.env.scope.names.lookup x=some .local:=by first|exact .inl rfl|exact .inr rfl|assumption):SG X g m (.Name x pos) (aS i) (m.set i .sh):=⟨by simp,PG.imp (Gj hN hi hx hf) fun v σ H Q ⟨r,G,d,si,rv,r',e,k⟩=>by cases e;exact k _ (si.set i rv)⟩
theorem wZ:SGs X g m [] 0 lK m:=by
 refine⟨rfl,fun ds r r' e=>?_,gY.imp Gk fun v σ H Q ⟨r,G,ds,si,rv,r',e,k⟩=>?_⟩
 .cases ds with
 |nil=>rfl
 |cons _ _=>cases e
 .cases rv with
 |nil=>cases e;exact⟨rfl,k σ si⟩
 |cons _ _=>cases e
theorem oy(h1:SG X g m tg ft m1)(h2:SGs X g m1 ts n fts m')(hs:(Nl (tg::ts) X.env).map (·.2)=Pe tg X.env::(Nl ts X.env).map (·.2):=by rfl):SGs X g m (tg::ts) (n+1) (io ft fts) m':=by
 refine⟨h2.ml.trans h1.1,fun ds r r' e=>?_,gY.imp (IM h1.2 h2.pg hs) fun v σ H Q ⟨r,G,ds,si,rv,r',e,k⟩=>?_⟩
 .cases ds with
 |nil=>cases e
 |cons d ds=>have e':((ft d r).bind fun r'=>fts ds r')=some r':=e;cases q:ft d r with
  |none=>rw[q]at e';cases e'
  |some r1=>rw[q]at e';have:=h2.ln ds r1 r' e';simp[this]
 .cases rv with
 |nil=>cases e
 |@cons v0 d vs ds rv rs=>have e':((ft d r).bind fun r'=>fts ds r')=some r':=e;cases q:ft d r with
  |none=>rw[q]at e';cases e'
  |some r1=>rw[q]at e';exact⟨_,_,rfl,r,G,d,si,rv,r1,q,fun σ' si'=>⟨r1,G,ds,si',rs,r',e',k⟩⟩
theorem EB{k:Nat}{t:ig}(hc:X.calm=true)(h:gY X ts t)(hn:(Nl ts X.env).length=n)(hst:(Nl ts X.env).findIdx? (·.1)=none):PG X (.Tuple ts k pos) (fun v σ H Q=>∃a xs,v=.ref a/\aU X.K H a xs/\xs.length=n/\t xs σ H Q):=by intro pz s σ H v u Q I r hw;obtain⟨a,xs,e1,hq,hl,hw⟩:=hw;subst e1;cases r;obtain⟨its,rv,⟨o,nn,l1,l2,l3,l4⟩,hz⟩:=I.list hq;rw[Sr];refine f_ (PJ ?_);unfold unpack;rw[hst,show(Nl ts X.env).length=its.toArray.size by simp[hn,<-hl,rv.length]];refine f_ (Nc (W.kun_itemsOf (I.ok.hd hc) ⟨o,l1,l2,nn,l4⟩ fun h' hx=>?_));have I1:Inv X pz σ H { s with heap:=h' }:=I.kept (t':=s.toks) fun b o e=>hx b o (Mv (t_ e)) e;exact h pz _ σ H xs _ Q I1 (by simpa using rv) hw
theorem PG.or{e:Expr}{t t':TG}(h:PG X e t)(h':PG X e t'):PG X e (fun v σ H Q=>t v σ H Q\/t' v σ H Q):=fun pz s σ H v u Q I r q=>q.elim (h pz s σ H v u Q I r) (h' pz s σ H v u Q I r)
theorem xA{k:Nat}(hc:X.calm=true)(h:SGs X g m ts n fts m')(hn:(Nl ts X.env).length=n:=by rfl)(hst:(Nl ts X.env).findIdx? (·.1)=none:=by rfl):SG X g m (.Tuple ts k pos) (nI fts) m':=by refine⟨h.ml,PG.imp (PG.or (EA hc h.pg hn hst) (EB hc h.pg hn hst)) fun v σ H Q ⟨r,G,d,si,rv,r',e,k⟩=>?_⟩;cases d with
|tup ds=>obtain⟨a,xs,rfl,s,rs⟩:=rv.tup si.gok;exact .inl ⟨a,xs,rfl,s,(Paired.length rs).trans (h.ln ds r r' e),r,G,ds,si,rs,r',e,k⟩
|lst ds=>obtain⟨a,xs,rfl,s,rs⟩:=rv.lst si.gok;exact .inr ⟨a,xs,rfl,s,(Paired.length rs).trans (h.ln ds r r' e),r,G,ds,si,rs,r',e,k⟩
|_=>cases e
end
structure Yields(K:W.Frag)(J:It)(ds:List D)(G0:GH):Prop where
 go:∀G H (i:Nat),aM G0 G->aI K G H->i<ds.length->J.go i H
 yld:∀G H (i:Nat) x H' d,aM G0 G->aI K G H->J.yld i H x H'->ds[i]? = some d->∃G',Grow K G H G' H'/\RG K G' x d
 stop:∀G H,aM G0 G->aI K G H->J.stop ds.length H
abbrev FI:=aj->Res (List D)
def tI(X:Cx)(g:GE)(m:List Md)(f:FI):TI:=fun σ H R=>∃r G,SI X g m r G σ H/\fin (f r) (fun ds=>∀J G' H',Grow X.K G H G' H'->Yields X.K J ds G'->R J H') (XW X σ G H)
def gu(X:Cx)(g:GE)(m:List Md)(tg iter:Expr)(f:FI):Prop:=PI X tg iter (tI X g m f)
theorem PI.imp{X:Cx}{tg e:Expr}{t t':TI}(h:PI X tg e t)(i:∀σ H Q,t' σ H Q->t σ H Q):PI X tg e t':=fun pz s σ H R I q=>h pz s σ H R I (i σ H R q)
theorem rV{K:W.Frag}{a:Addr}{ds:List D}{G0:GH}(h0:RG K G0 (.ref a) (.lst ds)):Yields K (nT K a) ds G0:=by
 have at_:∀G H,aM G0 G->aI K G H->∃xs,aU K H a xs/\bx K G xs ds:=fun G H w gk=>by obtain⟨b,xs,e,s,r⟩:=(h0.mono w).lst gk;cases e;exact⟨xs,s,r⟩
 refine⟨fun G H i w gk hi=>?_,fun G H i x H' d w gk y e=>?_,fun G H w gk=>?_⟩
 .obtain⟨xs,s,r⟩:=at_ G H w gk;have hl:=Paired.length r;exact⟨xs,xs[i],s,n_ (by omega)⟩
 .obtain⟨xs,s,r⟩:=at_ G H w gk;obtain⟨rfl,y⟩:=y;obtain⟨v,e1,rv⟩:=Paired.get r e;have:=y xs s;rw[e1]at this;cases this;exact⟨G,Grow.refl gk,rv⟩
 .obtain⟨xs,s,r⟩:=at_ G H w gk;exact⟨xs,s,OK (Paired.length r)⟩
theorem ra{K:W.Frag}{a:Addr}{ds:List D}{G0:GH}(h0:RG K G0 (.ref a) (.tup ds)):Yields K (wM K a) ds G0:=by
 have at_:∀G H,aM G0 G->aI K G H->∃xs,bI K H a xs/\bx K G xs ds:=fun G H w gk=>by obtain⟨b,xs,e,s,r⟩:=(h0.mono w).tup gk;cases e;exact⟨xs,s,r⟩
 refine⟨fun G H i w gk hi=>?_,fun G H i x H' d w gk y e=>?_,fun G H w gk=>?_⟩
 .obtain⟨xs,s,r⟩:=at_ G H w gk;have hl:=Paired.length r;exact⟨xs,xs[i],s,n_ (by omega)⟩
 .obtain⟨xs,s,r⟩:=at_ G H w gk;obtain⟨rfl,y⟩:=y;obtain⟨v,e1,rv⟩:=Paired.get r e;have:=y xs s;rw[e1]at this;cases this;exact⟨G,Grow.refl gk,rv⟩
 .obtain⟨xs,s,r⟩:=at_ G H w gk;exact⟨xs,s,OK (Paired.length r)⟩
def cJ(lo:Int)(n:Nat):List D:=(a_ n).map fun(i:Nat)=>D.int (lo+(i:Int))
theorem Ft{K:W.Frag}{lo:Int}{n:Nat}{G0:GH}:Yields K (qi lo n) (cJ lo n) G0:=by
 have hl:(cJ lo n).length=n:=by simp[cJ]
 refine⟨fun G H i w gk hi=>(by rw[hl]at hi;exact hi),fun G H i x H' d w gk y e=>?_,fun G H w gk=>(by rw[hl];exact w_ _)⟩;obtain⟨rfl,rfl⟩:=y;have hi:i<n:=by have:=(h_.mp e).1;rw[hl]at this;exact this
 unfold cJ at e;rw[x_,MZ hi]at e;cases e;exact⟨G,Grow.refl gk,.scl (.int _)⟩
def b9:D->Option (List D)
|.lst ds=>some ds
|.tup ds=>some ds
|_=>none
section
variable{X:Cx}{g:GE}{m m' m1 mb:List Md}{tg e a b c iter:Expr}{f fa fb:FE}{p:FQ}{pos pos':Pos}{ro:Bool}{fl:aj->Res (List D)}{sts:List Stmt}{s1:FS}
def aV(k:D->Option (List D))(f:FE):FI:=fun r=>(f r).bind fun d=>bK (k d)
theorem rc{l:Expr}{tl:TE}(hl:PE X l tl):PI X tg l (fun σ H R=>tl σ H fun x H1=>(∃a,x=.ref a/\(∃xs,aU X.K H1 a xs)/\R (nT X.K a) H1)\/∃a,x=.ref a/\(∃xs,bI X.K H1 a xs)/\R (wM X.K a) H1):=by
 intro pz s σ H R I h;refine aG (hl pz s σ H _ I h) fun v s1 ⟨x,H1,I1,r1,q1⟩=>?_;rcases q1 with⟨a,e,⟨xs,hq⟩,q⟩|⟨a,e,⟨xs,hq⟩,q⟩
 .subst e;cases r1;obtain⟨its,rv,p,hz⟩:=I1.list hq;refine wpAny_pyIter_list p.isList ?_;refine⟨s1.heap.objs.size,[s1.heap.objs.size],_,_,H1,rfl,I1.kept (t':=s1.toks) fun b o e=>m_ _ e,JT a _,⟨_,B_ _ rfl,rfl,rfl⟩,fun b hb=>?_,q⟩;have e:b=s1.heap.objs.size:=by simpa using hb
  subst e;exact I1.fpOk (w_ _) (I1.hok.fresh (w_ _))
 .subst e;cases r1;obtain⟨its,rv,p,hz⟩:=I1.tuple hq;refine OE (show s1.heap.IsTuple a its.toArray from p) ?_;refine⟨s1.heap.objs.size,[s1.heap.objs.size],_,_,H1,rfl,I1.kept (t':=s1.toks) fun b o e=>m_ _ e,KG a _,⟨_,B_ _ rfl,rfl,rfl⟩,fun b hb=>?_,q⟩;have e:b=s1.heap.objs.size:=by simpa using hb
  subst e;exact I1.fpOk (w_ _) (I1.hok.fresh (w_ _))
theorem kK(h:SE X g m e f):gu X g m tg e (aV b9 f):=by
 refine PI.imp (rc h) fun σ H R ⟨r,G,si,q⟩=>⟨r,G,si,aW (aY q) fun d q v G' H' w rv=>?_⟩
 obtain⟨ds,e,q⟩:=cb q;cases d with
|lst ds'=>cases e;obtain⟨a,xs,rfl,s,rs⟩:=rv.lst w.ok;exact .inl ⟨a,rfl,⟨xs,s⟩,q _ G' H' w (rV rv)⟩
|tup ds'=>cases e;obtain⟨a,xs,rfl,s,rs⟩:=rv.tup w.ok;exact .inr ⟨a,rfl,⟨xs,s⟩,q _ G' H' w (ra rv)⟩
|_=>cases e
structure YieldsC(K:W.Frag)(J:It)(ds:List D)(G0:GH)(H0:Hp):Prop where
 go:∀G H (i:Nat),Grow K G0 H0 G H->i<ds.length->J.go i H
 yld:∀G H (i:Nat) x H' d,Grow K G0 H0 G H->J.yld i H x H'->ds[i]? = some d->∃G',Grow K G H G' H'/\RG K G' x d
 stop:∀G H,Grow K G0 H0 G H->J.stop ds.length H
theorem Yields.toC{K:W.Frag}{J:It}{ds:List D}{G0:GH}{H0:Hp}(y:Yields K J ds G0):YieldsC K J ds G0 H0:=⟨fun G H i w hi=>y.go G H i w.ge w.ok hi,fun G H i x H' d w q e=>y.yld G H i x H' d w.ge w.ok q e,fun G H w=>y.stop G H w.ge w.ok⟩
def Mc(X:Cx)(g:GE)(m:List Md)(f:FI):TI:=fun σ H R=>∃r G,SI X g m r G σ H/\fin (f r) (fun ds=>∀J G' H',Grow X.K G H G' H'->YieldsC X.K J ds G' H'->R J H') (XW X σ G H)
def gX(X:Cx)(g:GE)(m:List Md)(tg iter:Expr)(f:FI):Prop:=PI X tg iter (Mc X g m f)
theorem gu.toC{fi:FI}(h:gu X g m tg iter fi):gX X g m tg iter fi:=PI.imp h fun σ H R ⟨r,G,si,q⟩=>⟨r,G,si,aW q fun ds k J G' H' w y=>k J G' H' w y.toC⟩
theorem Fs{K:W.Frag}{a:Addr}{ds:List D}{G0:GH}{H0:Hp}(o:Own K G0 H0 a (.lst ds)):YieldsC K (nT K a) ds G0 H0:=by
 have at_:∀G H,Grow K G0 H0 G H->∃xs,aU K H a xs/\bx K G xs ds:=fun G H w=>by cases(o.mono w).ob with
 |lst r s=>exact⟨_,aU.of r,s⟩
 refine⟨fun G H i w hi=>?_,fun G H i x H' d w y e=>?_,fun G H w=>?_⟩
 .obtain⟨xs,s,r⟩:=at_ G H w;have hl:=Paired.length r;exact⟨xs,xs[i],s,n_ (by omega)⟩
 .obtain⟨xs,s,r⟩:=at_ G H w;obtain⟨rfl,y⟩:=y;obtain⟨v,e1,rv⟩:=Paired.get r e;have:=y xs s;rw[e1]at this;cases this;exact⟨G,Grow.refl w.ok,rv⟩
 .obtain⟨xs,s,r⟩:=at_ G H w;exact⟨xs,s,OK (Paired.length r)⟩
theorem gB(h:SB X g m e f):gX X g m tg e (aV b9 f):=by
 refine PI.imp (rc h) fun σ H R ⟨r,G,si,q⟩=>⟨r,G,si,aW (aY q) fun d q v G' H' w rv=>?_⟩
 obtain⟨ds,e,q⟩:=cb q;cases d with
|lst ds'=>
  cases e;rcases rv with rv|⟨a,rfl,o⟩
  .obtain⟨a,xs,rfl,s,rs⟩:=rv.lst w.ok;exact .inl ⟨a,rfl,⟨xs,s⟩,q _ G' H' w (rV rv).toC⟩
  .cases o.ob with
  |lst r s=>exact .inl ⟨a,rfl,⟨_,aU.of r⟩,q _ G' H' w (Fs o)⟩
|tup ds'=>
  cases e;rcases rv with rv|⟨a,rfl,o⟩
  .obtain⟨a,xs,rfl,s,rs⟩:=rv.tup w.ok;exact .inr ⟨a,rfl,⟨xs,s⟩,q _ G' H' w (ra rv).toC⟩
  .cases o.ob
|_=>cases e
def b6:List D->Option (List D)
|[.int j]=>if-(2^62)<=j/\j<2^62 then some (cJ 0 j.toNat)else none
|_=>none
def cj(k:List D->Option (List D))(fl:aj->Res (List D)):FI:=fun r=>(fl r).bind fun ds=>bK (k ds)
theorem gG{pn:Pos}(hg:Gl X "range")(hm:X.mg "range" = none)(ha:gw X g m [a] fl)(hs:j_ [a] X.env=[(false,eval a X.env)]:=by rfl):gu X g m tg (.Call (.Name "range" pn) [a] [] pos) (cj b6 fl):=by
 refine PI.imp (J3 hg hm ha hs) fun σ H R ⟨r,G,si,q⟩=>⟨r,G,si,aW (aY q) fun ds q vs G' H' w rs=>?_⟩
 obtain⟨zs,e,q⟩:=cb q;unfold b6 at e;split at e
 .split at e
  .rename_i j hj;cases e;cases rs with
  |cons r1 t=>cases t;exact⟨j,by rw[r1.int w.ok],hj.1,hj.2,q _ G' H' w Ft⟩
  .cases e
 .cases e
def aF(ft:FT)(body:FS):List D->FS
|[],r=>.nx r
|d::ds,r=>match ft d r with
 |none=>.stuck
 |some r1=>match body r1 with
  |.nx r'=>aF ft body ds r'
  |.ct r'=>aF ft body ds r'
  |.bk r'=>.nx r'
  |o=>o
def db(m:List Md)(fi:FI)(ft:FT)(body:FS):FS:=fun r=>onE m r (fi r) fun ds=>aF ft body ds r
theorem gm(hp:PV (E_ X.prog X.w) X.A X.env X.xe)(hc:X.calm=true){ft:FT}{fi:FI}(hi:gu X g m tg iter fi)(hg:SG X g m tg ft m)(hb:cZ X g ro m m sts s1 m)(hs:∀x,NE iter X.env x=pure x:=by intro _;rfl):SS X g ro mb m (.For tg iter sts [] pos) (db m fi ft s1) m:=by
 refine⟨rfl,PS.imp (rf hp hc hi hg.2 hb.2 hs) fun D σ H ⟨r,G,si,q⟩=>⟨r,G,si,aW (fw si rfl q) fun ds q J G0 H0 w0 Y=>?_⟩⟩;refine⟨fun i n σ H=>∃r G,SI X g m r G σ H/\aM G0 G/\i<=ds.length/\n=ds.length-i/\bG X g ro m mb G D (aF ft s1 (ds.drop i) r),⟨ds.length,r,G0,si.grow w0,aM.refl G0,MD _,rfl,bG.gle q w0.ge⟩,?_⟩
 rintro i n σ1 H1 ⟨r1,G1,si1,le1,hi,rfl,q1⟩
 by_cases hlt:i<ds.length
 .have hd:ds.drop i=ds[i]::ds.drop (i+1):=Ny hlt;rw[hd]at q1;unfold aF at q1;refine .inr ⟨Y.go G1 H1 i le1 si1.gok hlt,fun σ' H'=>∃r G,SI X g m r G σ' H'/\aM G0 G/\bG X g ro m mb G D (aF ft s1 (ds.drop (i+1)) r),fun σ' H' ⟨r',G',si',le',q'⟩=>⟨ds.length-(i+1),by omega,r',G',si',le',hlt,rfl,q'⟩,fun x H' y=>?_⟩;obtain⟨G',w',rv⟩:=Y.yld G1 H1 i x H' ds[i] le1 si1.gok y (n_ hlt);have le':aM G0 G':=le1.trans w'.ge;cases eft:ft ds[i] r1 with
 |none=>simp only[eft]at q1;exact q1.elim
 |some r2=>simp only[eft]at q1;refine⟨r1,G',ds[i],si1.grow w',rv,r2,eft,fun σ2 si2=>⟨r2,G',si2,?_⟩⟩;cases eb:s1 r2 with
  |nx r'=>simp only[eb]at q1;exact fun σ3 G3 H3 le3 si3=>⟨r',G3,si3,le'.trans le3,bG.gle q1 (aM.trans w'.ge le3)⟩
  |ct r'=>simp only[eb]at q1;exact fun σ3 G3 H3 le3 si3=>⟨r',G3,si3,le'.trans le3,bG.gle q1 (aM.trans w'.ge le3)⟩
  |bk r'=>simp only[eb]at q1;exact fun σ3 G3 H3 le3 si3=>q1 σ3 G3 H3 (aM.trans w'.ge le3) si3
  |rt d=>simp only[eb]at q1;exact q1
  |exc x r'=>simp only[eb]at q1;exact fun pz e s' σ3 G3 H3 le3=>q1 pz e s' σ3 G3 H3 (aM.trans w'.ge le3)
  |stuck=>simp only[eb]at q1;exact q1
 .have e:i=ds.length:=by omega
  subst e;rw[OU]at q1;exact .inl ⟨Y.stop G1 H1 le1 si1.gok,q1 σ1 G1 H1 (aM.refl _) si1⟩
def ca(m:List Md):List Md:=m.map fun x=>if x=Md.sh then Md.sh else Md.bw
def jz(m:List Md)(r:aj)(st:L2.St)(G:GH)(H:Hp):GE:=⟨G,H,fun i=>if m[i]? = some Md.ow\/m[i]? = some Md.bw then some ((st[i]?).join,(r[i]?).join)else none⟩
theorem mL{m:List Md}{i:Nat}{x:Md}(h:m[i]? = some x):(ca m)[i]? = some (if x=Md.sh then Md.sh else Md.bw):=by unfold ca;rw[x_,h];rfl
theorem HX{m:List Md}{i:Nat}(h:(ca m)[i]? = some Md.sh):m[i]? = some Md.sh:=by cases q:m[i]? with
|none=>unfold ca at h;rw[x_,q]at h;cases h
|some x=>rw[mL q]at h;cases x <;> first|rfl|(simp at h)
theorem AI{m:List Md}{i:Nat}(h:(ca m)[i]? = some Md.ow):False:=by cases q:m[i]? with
|none=>unfold ca at h;rw[x_,q]at h;cases h
|some x=>rw[mL q]at h;cases x <;> simp at h
theorem lockM_bw{m:List Md}{i:Nat}(h:(ca m)[i]? = some Md.bw):m[i]? = some Md.ow\/m[i]? = some Md.bw:=by cases q:m[i]? with
|none=>unfold ca at h;rw[x_,q]at h;cases h
|some x=>rw[mL q]at h;cases x with
 |sh=>simp at h
 |ow=>exact .inl rfl
 |bw=>exact .inr rfl
theorem SI.lock{r:aj}{G:GH}{st:L2.St}{H:Hp}(s:SI X g m r G st H):SI X (jz m r st G H) (ca m) r G st H where
 gok:=s.gok
 old:=fun _ _ e=>e
 ge:=fun _ _ e=>e
 gf:=fun _ _=>rfl
 lm:=by unfold ca;rw[l_];exact s.lm
 lr:=s.lr
 sh:=fun i d h hm=>s.sh i d h (HX hm)
 ow:=fun i d h hm=>(AI hm).elim
 bw:=fun i d h hm=>by
  rcases lockM_bw hm with z|z
  .obtain⟨a,h1,h2,_⟩:=s.ow i d h z;exact⟨_,h1,.inr ⟨a,rfl,h2,h2.ob.isS⟩⟩
  .obtain⟨v,h1,h2⟩:=s.bw i d h z;refine⟨v,h1,?_⟩;rcases h2 with h2|⟨a,e,h2,_⟩
   .exact .inl h2
   .exact .inr ⟨a,e,h2,h2.ob.isS⟩
 dis:=fun i j a d e _ _ _ hm=>(AI hm).elim
 lk:=fun i o h hm=>by
  have h':(if m[i]? = some Md.ow\/m[i]? = some Md.bw then some ((st[i]?).join,(r[i]?).join)else none)=some o:=h;rw[if_pos (lockM_bw hm)]at h';cases h';have hi:i<st.length:=by have:=(h_.mp hm).1;unfold ca at this;rw[l_,s.lm]at this;exact this
  refine⟨?_,fun d hd=>by rw[hd];rfl⟩;rw[n_ hi];rfl
theorem SI.unlock{r r':aj}{G G':GH}{st st':L2.St}{H H':Hp}(s:SI X g m r G st H)(s':SI X (jz m r st G H) (ca m) r' G' st' H'):SI X g m r' G' st' H':=by
 have w:Grow X.K G H G' H':=s'.grown;have hlk:∀(i:Nat),(m[i]? = some Md.ow\/m[i]? = some Md.bw)->st'[i]? = some (st[i]?).join/\∀d,r'[i]? = some (some d)->r[i]? = some (some d):=fun i hi=>by
  have hm:(ca m)[i]? = some Md.bw:=by rcases hi with z|z <;> rw[mL z] <;> simp
  obtain⟨h1,h2⟩:=s'.lk i ((st[i]?).join,(r[i]?).join) (if_pos hi) hm;refine⟨h1,fun d hd=>?_⟩;have:=h2 d hd;cases q:r[i]? with
 |none=>rw[q]at this;cases this
 |some o=>rw[q]at this;rw[show o=some d from this]
 have hst:∀(i:Nat) v,(m[i]? = some Md.ow\/m[i]? = some Md.bw)->st[i]? = some (some v)->st'[i]? = some (some v):=fun i v hi h=>by rw[(hlk i hi).1,h];rfl
 refine⟨s'.gok,fun a o e=>s'.old a o (s.old a o e),fun a d e=>s'.ge a d (s.ge a d e),fun a h=>?_,?_,s'.lr,fun i d h hm=>?_,fun i d h hm=>?_,fun i d h hm=>?_,fun i j a d e hij h1 h2 m1 m2 q1 q2=>?_,fun i o hi hm=>?_⟩
 .have h1:H a≠none:=by cases e:g.h0 a with
  |none=>exact absurd e h
  |some o=>rw[s.old _ _ e];simp
  rw[w.gf a h1,s.gf a h]
 .have:=s'.lm;unfold ca at this;rw[l_]at this;exact this
 .exact s'.sh i d h (by rw[mL hm];simp)
 .obtain⟨a,h1,h2,h3⟩:=s.ow i d ((hlk i (.inl hm)).2 d h) hm;exact⟨a,hst i _ (.inl hm) h1,h2.mono w,h3⟩
 .obtain⟨v,h1,h2⟩:=s.bw i d ((hlk i (.inr hm)).2 d h) hm;exact⟨v,hst i _ (.inr hm) h1,h2.grow w⟩
 .have e1:=(hlk i (.inl m1)).2 d h1;have e2:=(hlk j (.inl m2)).2 e h2;obtain⟨b,z1,_,_⟩:=s.ow i d e1 m1;obtain⟨c,z2,_,_⟩:=s.ow j e e2 m2;have y1:=hst i _ (.inl m1) z1;have y2:=hst j _ (.inl m2) z2;rw[q1]at y1;rw[q2]at y2;cases y1;cases y2;exact s.dis i j a d e hij e1 e2 m1 m2 z1 z2
 .obtain⟨h1,h2⟩:=s.lk i o hi hm;refine⟨?_,fun d hd=>h2 d ((hlk i (.inr hm)).2 d hd)⟩;rw[(hlk i (.inr hm)).1,h1];rfl
theorem SI.unlockX{r r':aj}{G G':GH}{st st':L2.St}{H H':Hp}(s:SI X g m r G st H)(s':SI X (jz m r st G H) (b4 (ca m)) r' G' st' H'):SI X g (b4 m) r' G' st' H':=by
 have w:Grow X.K G H G' H':=s'.grown;have el:b4 (ca m)=b4 m:=pi (by unfold ca;rw[l_]);rw[el]at s';have no:∀{i:Nat}{x:Md},(b4 m)[i]? = some x->x=Md.sh:=fun{i x} h=>by unfold b4 at h;rw[x_]at h;cases q:m[i]? with
 |none=>rw[q]at h;cases h
 |some y=>rw[q]at h;cases h;rfl
 refine⟨s'.gok,fun a o e=>s'.old a o (s.old a o e),fun a d e=>s'.ge a d (s.ge a d e),fun a h=>?_,s'.lm,s'.lr,s'.sh,fun i d h hm=>(nomatch (no hm)),fun i d h hm=>(nomatch (no hm)),fun i j a d e hij h1 h2 m1 m2=>(nomatch (no m1)),fun i o hi hm=>(nomatch (no hm))⟩;have h1:H a≠none:=by cases e:g.h0 a with
 |none=>exact absurd e h
 |some o=>rw[s.old _ _ e];simp
 rw[w.gf a h1,s.gf a h]
theorem FL(hp:PV (E_ X.prog X.w) X.A X.env X.xe)(hc:X.calm=true){ft:FT}{fi:FI}(hi:gX X g m tg iter fi)(hg:∀g',SG X g' (ca m) tg ft (ca m))(hb:∀g',cZ X g' ro (ca m) (ca m) sts s1 (ca m))(hs:∀x,NE iter X.env x=pure x:=by intro _;rfl):SS X g ro mb m (.For tg iter sts [] pos) (db m fi ft s1) m:=by
 have hgA:PG X tg (fun v σ H Q=>∃g',tG X g' (ca m) (ca m) ft v σ H Q):=fun pz s σ H v u Q I r ⟨g',q⟩=>(hg g').2 pz s σ H v u Q I r q;have hbA:c6 X sts (fun D σ H=>∃g',tS X g' ro (ca m) (ca m) (ca m) s1 D σ H):=fun pz s σ H D I ⟨g',q⟩=>(hb g').2 pz s σ H D I q;refine⟨rfl,PS.imp (rf hp hc hi hgA hbA hs) fun D σ H ⟨r,G,si,q⟩=>⟨r,G,si,aW (fw si rfl q) fun ds q J G0 H0 w0 Y=>?_⟩⟩;have si0:=si.grow w0;refine⟨fun i n σ1 H1=>∃r1 G1,SI X (jz m r σ G0 H0) (ca m) r1 G1 σ1 H1/\i<=ds.length/\n=ds.length-i/\bG X g ro m mb G1 D (aF ft s1 (ds.drop i) r1),⟨ds.length,r,G0,si0.lock,MD _,rfl,bG.gle q w0.ge⟩,?_⟩
 rintro i n σ1 H1 ⟨r1,G1,si1,hi,rfl,q1⟩
 have wg:Grow X.K G0 H0 G1 H1:=si1.grown;by_cases hlt:i<ds.length
 .have hd:ds.drop i=ds[i]::ds.drop (i+1):=Ny hlt;rw[hd]at q1;unfold aF at q1;refine .inr ⟨Y.go G1 H1 i wg hlt,fun σ' H'=>∃r' G',SI X (jz m r σ G0 H0) (ca m) r' G' σ' H'/\bG X g ro m mb G' D (aF ft s1 (ds.drop (i+1)) r'),fun σ' H' ⟨r',G',si',q'⟩=>⟨ds.length-(i+1),by omega,r',G',si',hlt,rfl,q'⟩,fun x H' y=>?_⟩;obtain⟨G',w',rv⟩:=Y.yld G1 H1 i x H' ds[i] wg y (n_ hlt);cases eft:ft ds[i] r1 with
 |none=>simp only[eft]at q1;exact q1.elim
 |some r2=>simp only[eft]at q1;refine⟨jz m r σ G0 H0,r1,G',ds[i],si1.grow w',rv,r2,eft,fun σ2 si2=>⟨jz m r σ G0 H0,r2,G',si2,?_⟩⟩;cases eb:s1 r2 with
  |nx r'=>simp only[eb]at q1;exact fun σ3 G3 H3 le3 si3=>⟨r',G3,si3,bG.gle q1 (aM.trans w'.ge le3)⟩
  |ct r'=>simp only[eb]at q1;exact fun σ3 G3 H3 le3 si3=>⟨r',G3,si3,bG.gle q1 (aM.trans w'.ge le3)⟩
  |bk r'=>simp only[eb]at q1;exact fun σ3 G3 H3 le3 si3=>q1 σ3 G3 H3 (aM.trans w'.ge le3) (si0.unlock si3)
  |rt d=>simp only[eb]at q1;intro v G2 H2 wr rv2;refine q1 v G2 H2 (si0.grown.trans wr) ?_;cases ro with
   |false=>exact rv2
   |true=>
     rcases rv2 with⟨a,e1,e2,e3⟩|z
     .exact .inl ⟨a,e1,si0.grown.back e2,e3⟩
     .exact .inr z
  |exc x r'=>simp only[eb]at q1;exact fun pz e s' σ3 G3 H3 le3 si3=>q1 pz e s' σ3 G3 H3 (aM.trans w'.ge le3) (si0.unlockX si3)
  |stuck=>simp only[eb]at q1;exact q1
 .have e:i=ds.length:=by omega
  subst e;rw[OU]at q1;exact .inl ⟨Y.stop G1 H1 wg,q1 σ1 G1 H1 (aM.refl _) (si0.unlock si1)⟩
def dm(m:List Md)(p:FQ)(body:FS):Nat->FS
|0,_=>.stuck
|n+1,r=>onE m r (p r) fun c=>if c=true then(match body r with
  |.nx r'=>dm m p body n r'
  |.ct r'=>dm m p body n r'
  |.bk r'=>.nx r'
  |o=>o)else .nx r
theorem rX(n:Nat)(hp:PV (E_ X.prog X.w) X.A X.env X.xe)(hc:SQ X g m c p)(hb:cZ X g ro m m sts s1 m):SS X g ro mb m (.While c sts [] pos) (dm m p s1 n) m:=by
 refine⟨rfl,PS.imp (IW hp hc hb.2) fun D σ H ⟨r,G,si,q⟩=>?_⟩;refine⟨fun n σ H=>∃r G,SI X g m r G σ H/\bG X g ro m mb G D (dm m p s1 n r),⟨n,r,G,si,q⟩,?_⟩
 rintro n σ1 H1 ⟨r1,G1,si1,q1⟩
 cases n with
|zero=>exact q1.elim
|succ n=>unfold dm at q1;refine⟨r1,G1,si1,aW (fw si1 rfl q1) fun c q2 G2 H2 w2=>?_⟩;cases c with
 |false=>rw[if_neg i_]at q2 ⊢;exact q2 σ1 G2 H2 w2.ge (si1.grow w2)
 |true=>rw[if_pos rfl]at q2 ⊢;refine⟨fun σ' H'=>∃r G,SI X g m r G σ' H'/\bG X g ro m mb G D (dm m p s1 n r),fun σ' H' h=>⟨n,Om _,h⟩,r1,G2,si1.grow w2,?_⟩;cases eb:s1 r1 with
  |nx r'=>simp only[eb]at q2;exact fun σ3 G3 H3 le3 si3=>⟨r',G3,si3,bG.gle q2 (aM.trans w2.ge le3)⟩
  |ct r'=>simp only[eb]at q2;exact fun σ3 G3 H3 le3 si3=>⟨r',G3,si3,bG.gle q2 (aM.trans w2.ge le3)⟩
  |bk r'=>simp only[eb]at q2;exact fun σ3 G3 H3 le3 si3=>q2 σ3 G3 H3 (aM.trans w2.ge le3) si3
  |rt d=>simp only[eb]at q2;exact q2
  |exc x r'=>simp only[eb]at q2;exact fun pz e s' σ3 G3 H3 le3=>q2 pz e s' σ3 G3 H3 (aM.trans w2.ge le3)
  |stuck=>simp only[eb]at q2;exact q2
end
def lx:Res D->Res D
|.ok d=>.ok d
|_=>.stuck
@[simp] theorem noX_ok(d:D):lx (.ok d)=.ok d:=rfl
inductive ArgsOk(K:W.Frag)(G:GH)(H:Hp):List Md->List V->List D->Prop where
 |nil:ArgsOk K G H [] [] []
 |sh {v:V} {d:D} {ms:List Md} {vs:List V} {ds:List D}:RG K G v d->ArgsOk K G H ms vs ds->ArgsOk K G H (.sh::ms) (v::vs) (d::ds)
 |bw {v:V} {d:D} {ms:List Md} {vs:List V} {ds:List D}:RB K G H v d->ArgsOk K G H ms vs ds->ArgsOk K G H (.bw::ms) (v::vs) (d::ds)
section
variable{K:W.Frag}{G G':GH}{H H':Hp}
theorem ArgsOk.mono:∀{ms:List Md}{vs:List V}{ds:List D},ArgsOk K G H ms vs ds->Grow K G H G' H'->ArgsOk K G' H' ms vs ds
|_,_,_,.nil,_=>.nil
|_,_,_,.sh h t,w=>.sh (h.mono w.ge) (t.mono w)
|_,_,_,.bw h t,w=>.bw (h.mono w) (t.mono w)
theorem ArgsOk.len{ms:List Md}{vs:List V}{ds:List D}(h:ArgsOk K G H ms vs ds):vs.length=ms.length/\ds.length=ms.length:=by induction h with
|nil=>exact⟨rfl,rfl⟩
|sh h t ih=>exact⟨congrArg (· + 1) ih.1,congrArg (· + 1) ih.2⟩
|bw h t ih=>exact⟨congrArg (· + 1) ih.1,congrArg (· + 1) ih.2⟩
theorem ArgsOk.app{dvs:List V}{dds:List D}(hs:Paired Scl dvs dds):∀{ms:List Md}{vs:List V}{ds:List D},ArgsOk K G H ms vs ds->ArgsOk K G H (ms++MF dds.length .sh) (vs++dvs) (ds++dds)
|_,_,_,.nil=>by induction hs with
 |nil=>exact .nil
 |cons h t ih=>exact .sh (.scl h) ih
|_,_,_,.sh h t=>.sh h (t.app hs)
|_,_,_,.bw h t=>.bw h (t.app hs)
theorem ArgsOk.get:∀{ms:List Md}{vs:List V}{ds:List D}{i:Nat}{d:D},ArgsOk K G H ms vs ds->ds[i]? = some d->∃v,vs[i]? = some v/\((ms[i]? = some .sh/\RG K G v d)\/(ms[i]? = some .bw/\RB K G H v d))
|_,_,_,_,_,.nil,e=>by simp at e
|_,_,_,0,_,.sh h t,e=>by simp at e;subst e;exact⟨_,rfl,.inl ⟨rfl,h⟩⟩
|_,_,_,0,_,.bw h t,e=>by simp at e;subst e;exact⟨_,rfl,.inr ⟨rfl,h⟩⟩
|_,_,_,i+1,d,.sh h t,e=>by obtain⟨v,h1,h2⟩:=t.get (i:=i) (d:=d) (by simpa using e);exact⟨v,by simpa using h1,by simpa using h2⟩
|_,_,_,i+1,d,.bw h t,e=>by obtain⟨v,h1,h2⟩:=t.get (i:=i) (d:=d) (by simpa using e);exact⟨v,by simpa using h1,by simpa using h2⟩
end
def hV(K:W.Frag)(ro:Bool)(ms:List Md)(F:List D->Res D):Sp:=fun vs H Q _=>∃G ds,aI K G H/\ArgsOk K G H ms vs ds/\fin (F ds) (fun d=>∀v G' H',Grow K G H G' H'->RV ro K H G' H' v d->Q v H') fun _=>False
def aq(ro:Bool):Out->Res D
|.nx _=>if ro=true then .stuck else .ok .non
|.rt d=>.ok d
|.exc x _=>.exc x
|_=>.stuck
def aK(n:Nat)(ds:List D):aj:=ds.map some++MF (n-ds.length) none
def gr(n:Nat)(ms:List Md):List Md:=ms++MF (n-ms.length) .sh
section
variable{P:D_}{w:Mu}{K:W.Frag}{mg:Str->Option b_}{base:Heap}
theorem oX{X:Cx}{N:List Str}{ms:List Md}{vs:List V}{ds:List D}{G:GH}{H:Hp}(gk:aI X.K G H)(rs:ArgsOk X.K G H ms vs ds)(hn:ms.length<=N.length):SI X ⟨G,H,fun _=>none⟩ (gr N.length ms) (aK N.length ds) G (L2.a7 N vs) H:=by
 obtain⟨l1,l2⟩:=rs.len;have e1:(L2.a7 N vs).length=N.length:=by unfold L2.a7;rw[MO,l_,Nv];omega
 have e2:(aK N.length ds).length=N.length:=by unfold aK;rw[MO,l_,Nv];omega
 have e3:(gr N.length ms).length=N.length:=by unfold gr;rw[MO,Nv];omega
 have at_:∀(i:Nat) d,(aK N.length ds)[i]? = some (some d)->i<ms.length/\(gr N.length ms)[i]? = ms[i]?/\∃v,(L2.a7 N vs)[i]? = some (some v)/\((ms[i]? = some .sh/\RG X.K G v d)\/(ms[i]? = some .bw/\RB X.K G H v d)):=fun i d h=>by
  unfold aK at h;by_cases hi:i<ds.length
  .rw[MK (by simpa using hi),x_]at h;have hd:ds[i]? = some d:=by cases z:ds[i]? with
   |none=>rw[z]at h;cases h
   |some d'=>rw[z]at h;cases h;rfl
   obtain⟨v,hv,rv⟩:=rs.get hd;refine⟨by omega,?_,v,?_,rv⟩
   .unfold gr;rw[MK (by omega)]
   .unfold L2.a7;rw[MK (by rw[l_];omega),x_,hv];rfl
  .rw[Og (by simpa using hi),Nb]at h;split at h <;> cases h
 refine⟨gk,fun _ _ e=>e,fun _ _ e=>e,fun _ _=>rfl,by rw[e3,e1],by rw[e1,e2],fun i d h hm=>?_,fun i d h hm=>?_,fun i d h hm=>?_,fun i j a d e _ h _ hm=>?_,fun i o h=>nomatch h⟩
 .obtain⟨_,hq,v,h1,h2⟩:=at_ i d h;rw[hq]at hm;rcases h2 with⟨_,h2⟩|⟨h3,h2⟩
  .exact⟨v,h1,h2⟩
  .rw[hm]at h3;cases h3
 .obtain⟨_,hq,v,h1,h2⟩:=at_ i d h;rw[hq]at hm;rcases h2 with⟨h3,h2⟩|⟨h3,h2⟩ <;> rw[hm]at h3 <;> cases h3
 .obtain⟨_,hq,v,h1,h2⟩:=at_ i d h;rw[hq]at hm;rcases h2 with⟨h3,h2⟩|⟨h3,h2⟩
  .rw[hm]at h3;cases h3
  .refine⟨v,h1,?_⟩;rcases h2 with h2|⟨a,rfl,h2⟩
   .exact .inl h2
   .exact .inr ⟨a,rfl,h2,h2.ob.isS⟩
 .obtain⟨_,hq,v,h1,h2⟩:=at_ i d h;rw[hq]at hm;rcases h2 with⟨h3,h2⟩|⟨h3,h2⟩ <;> rw[hm]at h3 <;> cases h3
theorem As{X:Cx}{ro:Bool}{fs:FS}{m':List Md}{G:GH}{H:Hp}{r:aj}{Q:VK}(q:fin (aq ro (fs r)) (fun d=>∀v G' H',Grow X.K G H G' H'->RV ro X.K H G' H' v d->Q v H') fun _=>False):bG X ⟨G,H,fun _=>none⟩ ro m' [] G { nx:=fun _ H'=>Q .non H',rt:=Q } (fs r):=by cases e:fs r with
|nx r'=>rw[e]at q;cases ro with
 |false=>exact fun σ' G' H' _ si=>q .non G' H' si.grown (.scl .non)
 |true=>exact q.elim
|rt d=>rw[e]at q;exact fun v G' H' wg rv=>q v G' H' wg rv
|bk r'=>rw[e]at q;exact q.elim
|ct r'=>rw[e]at q;exact q.elim
|exc x r'=>rw[e]at q;exact q.elim
|stuck=>rw[e]at q;exact q
theorem yH{x qual:Str}{st:Stmt}{f:Addr}{fd:M5}{N ps:List Str}{k:Nat}{ro:Bool}{ms:List Md}{fs:FS}{m':List Md}(F:Fun K x qual st f fd)(S:FnScope N ps (ar st))(hms:ms.length=ps.length)(hbody:∀(cdv:b_)(A:Mw)(outer:List Env)(s:g_)(H:Hp)(g:GE)(E:XK),Room k (A.deeper (Ot qual (ar st) s.heap.objs.size f cdv)) ->cZ (aQ bR P w K mg base N qual (ar st) f cdv A outer s H E).nox g ro [] (gr N.length ms) (c8 st) fs m'):FnOk P w K mg base bR (k+1) f fd ps (hV K ro ms fun ds=>aq ro (fs (aK N.length ds))):=by
 refine F.ok S (fun vs H Q E ⟨G,ds,gk,rs,q⟩=>rs.len.1.trans hms) fun cdv A outer s H vs Q E hr h=>?_;obtain⟨G,ds,gk,rs,q⟩:=h;have hpl:ps.length<=N.length:=by have:=congrArg Pw S.pre;rw[Nm]at this;omega
 exact⟨_,(hbody cdv A outer s H ⟨G,H,fun _=>none⟩ E hr).2,aK N.length ds,G,oX gk rs (by omega),As q⟩
end
section
variable{X:Cx}{g:GE}{m:List Md}{e:Expr}{f:FE}{es:List Expr}{fl:aj->Res (List D)}{k:Nat}{fa:Addr}{fd:M5}{ps:List Str}{F:List D->Res D}{dvs:List V}{ds:List b_}{dds:List D}{x:Str}{p pos:Pos}{ms:List Md}
def Ma(X:Cx)(g:GE)(m:List Md)(ms:List Md)(f:aj->Res (List D)):TA:=fun σ H Q=>∃r G,SI X g m r G σ H/\fin (f r) (fun ds=>∀vs G' H',Grow X.K G H G' H'->ArgsOk X.K G' H' ms vs ds->Q vs H') (XW X σ G H)
def fX(X:Cx)(g:GE)(m:List Md)(es:List Expr)(ms:List Md)(f:aj->Res (List D)):Prop:=PA X es (Ma X g m ms f)
theorem aN:fX X g m [] [] aa:=PA.imp je fun σ H Q ⟨r,G,si,k⟩=>k [] G H (Grow.refl si.gok) .nil
theorem dE(ha:SE X g m e f)(hr:fX X g m es ms fl)(hs:j_ (e::es) X.env=(false,eval e X.env)::j_ es X.env:=by rfl):fX X g m (e::es) (.sh::ms) (af f fl):=by
 refine PA.imp (gs ha hr hs) fun σ H Q ⟨r,G,si,k⟩=>⟨r,G,si,aW (aY k) fun d k1 v G1 H1 w1 r1=>⟨r,G1,si.grow w1,?_⟩⟩
 exact d8 (aY k1) w1 fun ds z vs G2 H2 w2 r2=>z (v::vs) G2 H2 (w1.trans w2) (.sh (r1.mono w2.ge) r2)
theorem ah(ha:SB X g m e f)(hr:fX X g m es ms fl)(hs:j_ (e::es) X.env=(false,eval e X.env)::j_ es X.env:=by rfl):fX X g m (e::es) (.bw::ms) (af f fl):=by
 refine PA.imp (gs ha hr hs) fun σ H Q ⟨r,G,si,k⟩=>⟨r,G,si,aW (aY k) fun d k1 v G1 H1 w1 r1=>⟨r,G1,si.grow w1,?_⟩⟩
 exact d8 (aY k1) w1 fun ds z vs G2 H2 w2 r2=>z (v::vs) G2 H2 (w1.trans w2) (.bw (r1.mono w2) r2)
def aJ(fl:aj->Res (List D))(dds:List D)(F:List D->Res D):FE:=fun r=>(fl r).bind fun ds=>lx (F (ds++dds))
theorem Bm{ro:Bool}{vs:List V}{zs:List D}{G:GH}{H:Hp}{Q:VK}(gk:aI X.K G H)(rs:ArgsOk X.K G H ms vs zs)(hsc:Paired Scl dvs dds)(q:fin (lx (F (zs++dds))) (fun d=>∀v G' H',Grow X.K G H G' H'->RV ro X.K H G' H' v d->Q v H') fun _=>False):hV X.K ro (ms++MF dds.length .sh) F (vs++dvs) H Q E0:=by refine⟨G,zs++dds,gk,rs.app hsc,?_⟩;cases e:F (zs++dds)with
|ok d=>rw[e]at q;exact q
|exc x=>rw[e]at q;exact q.elim
|stuck=>rw[e]at q;exact q.elim
theorem A6{α:Type}{r:Res α}{q:α->Prop}{x:D->Prop}(h:fin r q x)(hr:∀e,r≠.exc e):fin r q fun _=>False:=by cases r with
|ok a=>exact h
|exc e=>exact absurd rfl (hr e)
|stuck=>exact h
theorem yQ(r:Res D)(e:D):lx r≠.exc e:=by cases r <;> simp[lx]
theorem FK(G1:FnOk X.prog X.w X.K X.mg X.base bR k fa fd ps (hV X.K false (ms++MF dds.length .sh) F))(hr:Room k X.A)(hg:Gl X x)(hm:X.mg x=some (.ref fa))(hk:W.keepIn X.K (.ref fa)=true)(hb:fq X.K fd ps ds)(hd:ai dvs ds)(hsc:Paired Scl dvs dds)(ha:fX X g m (e::es) ms fl)(hdb:(x==("__debug__" : Str))=false:=by decide)(he:j_ (e::es) X.env=(false,eval e X.env)::j_ es X.env:=by rfl)(hpl:(backTo pos (j_ es X.env)).any (·.1)=false:=by rfl):SE X g m (.Call (.Name x p) (e::es) [] pos) (aJ fl dds F):=by
 refine PE.imp (z7 G1 hr hg hm hk hb hd xH ha hdb he hpl) fun σ H Q ⟨r,G,si,q⟩=>⟨r,G,si,?_⟩
 cases ez:fl r with
|ok zs=>unfold aJ at q;rw[ez]at q;intro vs G' H' w' rs;exact Bm w'.ok rs hsc (aW (A6 q (yQ _)) fun d k v G2 H2 w2 rv=>k v G2 H2 (w'.trans w2) rv)
|exc x=>unfold aJ at q;rw[ez]at q;exact q
|stuck=>unfold aJ at q;rw[ez]at q;exact q
end
theorem Io{env:Env}:∀(l:List (Str×Of))(cs:List (Str×Addr)),(∀x∈l,x.2=.free->∃c,env.cells.lookup x.1=some c)->(∀x c,cs.lookup x=some c->env.cells.lookup x=some c) ->∃cl,(forIn l cs (fun(x:Str×Of)(cs:List (Str×Addr))=>if (x.2==NameKind.free)=true then(do let a <-Tg env x.1;pure (ForInStep.yield ((x.1,a)::cs)))else pure (ForInStep.yield cs)):Sem (List (Str×Addr)))=pure cl /\(∀x c,cl.lookup x=some c->env.cells.lookup x=some c)/\(∀x,(x,NameKind.free)∈l->∃c,cl.lookup x=some c)/\(∀x c,cs.lookup x=some c->∃c',cl.lookup x=some c'):=by
 intro l
 induction l with
|nil=>intro cs _ h;exact⟨cs,rfl,h,fun x hx=>(by cases hx),fun x c h=>⟨c,h⟩⟩
|cons y l ih=>
  intro cs hf hc;obtain⟨n,k⟩:=y;by_cases hk:k=.free
  .subst hk;obtain⟨c,ec⟩:=hf (n,.free) e_ rfl;have e1:Tg env n=pure c:=by unfold Tg;rw[ec]
   have hc':∀x c',((n,c)::cs).lookup x=some c'->env.cells.lookup x=some c':=fun x c' h=>by rw[NU]at h;cases q:x==n with
   |true=>rw[q]at h;cases h;rw[No q];exact ec
   |false=>rw[q]at h;exact hc x c' h
   obtain⟨cl,e2,h1,h2,h3⟩:=ih ((n,c)::cs) (fun x hx=>hf x (c_ _ hx)) hc';refine⟨cl,?_,h1,fun x hx=>?_,fun x c' h=>?_⟩
   .rw[<-e2];rw[Qt];show(Tg env n >>= fun a=>pure (ForInStep.yield ((n,a)::cs))) >>= _=_;rw[e1];rfl
   .rcases p_.mp hx with z|z
    .cases z;exact h3 n c (by rw[NU];simp)
    .exact h2 x z
   .cases q:x==n with
   |true=>exact h3 x c (by rw[NU,q])
   |false=>exact h3 x c' (by rw[NU,q];exact h)
  .obtain⟨cl,e2,h1,h2,h3⟩:=ih cs (fun x hx=>hf x (c_ _ hx)) hc;have hb:(k==NameKind.free)=false:=by simpa using hk
   refine⟨cl,?_,h1,fun x hx=>?_,h3⟩
   .rw[<-e2,Qt];simp only[hb,Q2,if_false];rfl
   .rcases p_.mp hx with z|z
    .cases z;exact absurd rfl hk
    .exact h2 x z
theorem J0{scope:Oe}{env:Env}(hf:∀x∈scope.names,x.2=.free->∃c,env.cells.lookup x.1=some c):∃cl,R7 scope env=pure cl/\(∀x c,cl.lookup x=some c->env.cells.lookup x=some c)/\(∀x,(x,NameKind.free)∈scope.names->∃c,cl.lookup x=some c):=by obtain⟨cl,e,h1,h2,_⟩:=Io scope.names [] hf (fun x c h=>by cases h);refine⟨cl,?_,h1,h2⟩;have e0:R7 scope env=((forIn scope.names ([]:List (Str×Addr)) (fun(x:Str×Of)(cs:List (Str×Addr))=>if (x.2==NameKind.free)=true then(do let a <-Tg env x.1;pure (ForInStep.yield ((x.1,a)::cs)))else pure (ForInStep.yield cs)):Sem (List (Str×Addr))) >>= fun cs=>pure cs):=rfl;rw[e0,e];rfl
theorem Ci{f:Str->Of->Of}:∀(l:List (Str×Of))(x:Str),(l.map fun y=>(y.1,f y.1 y.2)).lookup x=(l.lookup x).map (f x)
|[],x=>rfl
|(n,k)::l,x=>by rw[G_,NU,NU];cases q:x==n with
 |true=>simp[No q]
 |false=>exact Ci l x
def df(env:Env)(n:Str)(k:Of):Of:=if (k==.free&&env.scope.kind==.function&&env.kindOf n==some .cell)=true then .cell else k
theorem Cj(scope:Oe)(env:Env)(x:Str):(Rk scope env).names.lookup x=(scope.names.lookup x).map (df env x):=by
 rw[<-Ci];unfold Rk;congr 1;apply MB;intro y _;obtain⟨n,k⟩:=y;show(if (k==NameKind.free&&env.scope.kind==.function&&env.kindOf n==some .cell)=true then(n,NameKind.cell)else(n,k))=(n,df env n k)
 unfold df;split <;> rfl
structure CompSc(X:Cx)(scope:Oe)(N':List Str)(nl:Nat)(cap:List Nat):Prop where
 kind:scope.kind=.function
 nocell:∀y∈scope.names,y.2≠.cell
 names:∀y∈scope.names,y.2=.local->scope.names.lookup y.1=some .local
 freeK:∀y∈scope.names,y.2=.free->X.env.kindOf y.1=some .cell\/X.env.kindOf y.1=some .free
 len:N'.length=nl+cap.length
 capN:∀j,j<cap.length->∃x,N'[nl+j]? = some x/\X.N[cap.getD j 0]? = some x/\scope.names.lookup x=some .free
def d4(X:Cx)(s₀:g_)(H₀:Hp)(N':List Str)(scope:Oe)(cl:List (Str×Addr))(C:Addr)(fp:List Addr):Cx where
 prog:=X.prog
 w:=X.w
 K:=X.K
 mg:=X.mg
 base:=X.base
 A:=X.A
 N:=N'
 s₀:=s₀
 H₀:=H₀
 env:=QE scope cl C X.env
 outer:=X.stack
 stack:=X.stack
 ex:=fp
 fn:=fun _=>false
 calm:=X.calm
 pn:=[]
 xe:=fun _ _=>False
section
variable{X:Cx}{pz:List (Addr×Obj)}{σ:L2.St}{H:Hp}{s:g_}{scope:Oe}{N':List Str}{nl:Nat}{cap:List Nat}{cl:List (Str×Addr)}{C:Addr}{fp:List Addr}
theorem DA(I:Inv X pz σ H s)(sc:CompSc X scope N' nl cap)(h1:∀x c,cl.lookup x=some c->X.env.cells.lookup x=some c)(h2:∀x,(x,NameKind.free)∈scope.names->∃c,cl.lookup x=some c)(hf:∀b∈fp,cS X pz H b/\b<s.heap.objs.size)(hC:s.heap.objs.size<=C):(d4 X s H N' scope cl C fp).Ok where
 mod:=I.ok.mod
 kind:=sc.kind
 glob:=I.ok.glob
 blt:=I.ok.blt
 above:=hC
 inj:=fun x y c a b=>I.ok.inj x y c (h1 x c a) (h1 y c b)
 has:=fun x hk=>by
  have hk':(scope.names.lookup x).map (df X.env x)=some .cell\/(scope.names.lookup x).map (df X.env x)=some .free:=by rw[<-Cj];exact hk
  cases e:scope.names.lookup x with
 |none=>rw[e]at hk';rcases hk' with z|z <;> cases z
 |some k=>
   have hm:=Ni e;have kf:k=.free:=by
    rw[e]at hk';have hk2:df X.env x k=.cell\/df X.env x k=.free:=by
     rcases hk' with z|z
     .exact .inl (C_ z)
     .exact .inr (C_ z)
    unfold df at hk2;split at hk2
    .rename_i hc;simp only[I_,beq_iff_eq]at hc;exact hc.1.1
    .rcases hk2 with z|z
     .exact absurd z (sc.nocell _ hm)
     .exact z
   subst kf;exact h2 x hm
 cab:=fun x c h=>by cases h
 hd:=I.ok.hd
 frames:=I.ok.frames
 stk:=.inl rfl
 exf:=fun b hb=>⟨Mv (A_ (hf b hb).2 hC),fun x c e=>(hf b hb).1.2.2.2.2.1 x c (h1 x c e)⟩
 bs:=I.bs
 bsz:=MI I.ok.bsz I.sz
 noex:=fun b o e hb=>by
  obtain⟨_,_,_,hx,_⟩:=(hf b hb).1;rcases hx with z|z
  .exact I.ok.noex b o e z
  .exact absurd (A_ (t_ e) (MI I.ok.bsz z)) (MX _)
 exfs:=fun b hb hfs=>by
  obtain⟨_,q1,q2,_⟩:=(hf b hb).1;rcases p_.mp (I.stkSub b hfs)with z|z
  .exact q1 z
  .exact q2 z
 funs:=I.stack
 frf:=I.stkFree
end
def eu(ft:FT)(q:FQ)(fe:FE)(r0:aj):List D->Res (List D)
|[]=>.ok []
|d::ds=>(bK (ft d r0)).bind fun r1=>(q r1).bind fun c=>if c=true then(fe r1).bind fun v=>(eu ft q fe r0 ds).bind fun vs=>.ok (v::vs)else eu ft q fe r0 ds
def a8(nl:Nat)(cap:List Nat)(r:aj):aj:=MF nl none++cap.map fun i=>r.getD i none
def aH(nl:Nat)(cap:List Nat)(m:List Md):List Md:=MF nl Md.sh++cap.map fun i=>if m.getD i Md.sh=Md.sh then Md.sh else Md.bw
def cR(nl:Nat)(cap:List Nat)(st:L2.St):L2.St:=MF nl none++cap.map fun i=>st.getD i none
theorem l6{α:Type}{nl:Nat}{cap:List Nat}{u:α}{h:Nat->α}{i:Nat}(hi:nl<=i):(MF nl u++cap.map h)[i]? = (cap[i-nl]?).map h:=by rw[Og (by simpa using hi),Nv,x_]
section
variable{X:Cx}{pz:List (Addr×Obj)}{σ:L2.St}{H H':Hp}{s:g_}{scope:Oe}{N':List Str}{nl:Nat}{cap:List Nat}{cl:List (Str×Addr)}{C:Addr}{fp:List Addr}{g:GE}{G G':GH}{m:List Md}{r:aj}
theorem Dw(si:SI X g m r G σ H)(w:Grow X.K G H G' H'):SI (d4 X s H N' scope cl C fp) ⟨G,H,fun _=>none⟩ (aH nl cap m) (a8 nl cap r) G' (cR nl cap σ) H':=by
 have lens:(aH nl cap m).length=nl+cap.length:=by simp[aH]
 have lens2:(a8 nl cap r).length=nl+cap.length:=by simp[a8]
 have lens3:(cR nl cap σ).length=nl+cap.length:=by simp[cR]
 have rget:∀(i:Nat) d,(a8 nl cap r)[i]? = some (some d)->nl<=i/\∃j,cap[i-nl]? = some j/\r[j]? = some (some d):=fun i d h=>by
  by_cases hi:i<nl
  .unfold a8 at h;rw[MK (by simpa using hi),Nb]at h;split at h <;> cases h
  .refine⟨by omega,?_⟩;unfold a8 at h;rw[l6 (by omega)]at h;cases e:cap[i-nl]? with
  |none=>rw[e]at h;cases h
  |some j=>rw[e]at h;refine⟨j,rfl,?_⟩;have h':r.getD j none=some d:=C_ h;rw[u_]at h';cases e2:r[j]? with
   |none=>rw[e2]at h';cases h'
   |some o=>rw[e2]at h';rw[show o=some d from h']
 have mget:∀(i j:Nat) md,nl<=i->cap[i-nl]? = some j->(aH nl cap m)[i]? = some md->md=if m.getD j Md.sh=Md.sh then Md.sh else Md.bw:=fun i j md hi hj h=>by unfold aH at h;rw[l6 hi,hj]at h;exact(C_ h).symm
 have sget:∀(i j:Nat) v,nl<=i->cap[i-nl]? = some j->σ[j]? = some (some v)->(cR nl cap σ)[i]? = some (some v):=fun i j v hi hj h=>by unfold cR;rw[l6 hi,hj];show some (σ.getD j none)=_;rw[u_,h];rfl
 have mj:∀(j:Nat) d,r[j]? = some (some d)->m[j]? = some (m.getD j Md.sh):=fun j d h=>by
  have hl:j<m.length:=by have:=(h_.mp h).1;rw[si.lr,<-si.lm]at this;exact this
  rw[u_,n_ hl];rfl
 refine⟨w.ok,w.he,w.ge,w.gf,by rw[lens,lens3],by rw[lens2,lens3],fun i d h hm=>?_,fun i d h hm=>?_,fun i d h hm=>?_,fun i j a d e _ h _ hm=>?_,fun i o h=>nomatch h⟩
 .obtain⟨hi,j,hj,hr⟩:=rget i d h;have e:=mget i j _ hi hj hm;have hsh:m.getD j Md.sh=Md.sh:=by
   by_cases z:m.getD j Md.sh=Md.sh
   .exact z
   .rw[if_neg z]at e;cases e
  obtain⟨v,h1,h2⟩:=si.sh j d hr (by rw[mj j d hr,hsh]);exact⟨v,sget i j v hi hj h1,h2.mono w.ge⟩
 .obtain⟨hi,j,hj,hr⟩:=rget i d h;have e:=mget i j _ hi hj hm;split at e <;> cases e
 .obtain⟨hi,j,hj,hr⟩:=rget i d h;have e:=mget i j _ hi hj hm;have hsh:m.getD j Md.sh≠Md.sh:=by intro z;rw[if_pos z]at e;cases e
  have hmj:=mj j d hr;cases q:m.getD j Md.sh with
 |sh=>exact absurd q hsh
 |ow=>rw[q]at hmj;obtain⟨a,h1,h2,_⟩:=si.ow j d hr hmj;exact⟨_,sget i j _ hi hj h1,.inr ⟨a,rfl,h2.mono w,h2.ob.isS⟩⟩
 |bw=>
   rw[q]at hmj;obtain⟨v,h1,h2⟩:=si.bw j d hr hmj;refine⟨v,sget i j _ hi hj h1,?_⟩;rcases h2 with h2|⟨a,rfl,h2,_⟩
   .exact .inl (h2.mono w.ge)
   .exact .inr ⟨a,rfl,h2.mono w,h2.ob.isS⟩
 .obtain⟨hi,j',hj,hr⟩:=rget i d h;have e:=mget i j' _ hi hj hm;split at e <;> cases e
theorem Dz(I:Inv X pz σ H s)(ok:(d4 X s H N' scope cl C fp).Ok)(sc:CompSc X scope N' nl cap)(h1:∀x c,cl.lookup x=some c->X.env.cells.lookup x=some c)(h2:∀x,(x,NameKind.free)∈scope.names->∃c,cl.lookup x=some c)(hN:X.N.Nodup){s4:g_}{H4:Hp}{mc:Str->Option b_}(hos:s4.os=s.os)(hb:OW s4.gens)(kp:∀b o,s.heap.get? b=some o->s4.heap.get? b=some o)(hns:s4.heap.Ns C mc)(hC:s.heap.objs.size<=C)(hHC:H4 C=none)(hH:∀b,H b=none->b<s.heap.objs.size->H4 b=none)(un:Un (bQ X.stack) fp H H4 s.heap s4.heap)(hok:bU X.prog X.w H4 s4.heap):Inv (d4 X s H N' scope cl C fp) [] (cR nl cap σ) H4 s4:=by
 refine⟨ok,hos,hb,un,⟨mc,hns,fun i x v e1 e2 e3=>?_⟩,fun x c e=>?_,hHC,fun x c e=>?_,fun p hp=>absurd (show p∈([]:List (Addr×Obj))from hp) (by simp),hok,?_⟩
 .have hi:nl<=i:=by
   by_cases z:i<nl
   .unfold cR at e2;rw[MK (by simpa using z),Nb]at e2;split at e2 <;> cases e2
   .omega
  unfold cR at e2;rw[l6 hi]at e2;cases ej:cap[i-nl]? with
 |none=>rw[ej]at e2;cases e2
 |some j=>
   rw[ej]at e2;have hj:i-nl<cap.length:=(h_.mp ej).1;obtain⟨x',q1,q2,q3⟩:=sc.capN (i-nl) hj;have ed:cap.getD (i-nl) 0=j:=by rw[u_,ej];rfl
   rw[ed]at q2;have ei:nl+(i-nl)=i:=by omega
   rw[ei]at q1;have e1':N'[i]? = some x:=e1;rw[q1]at e1';have ex:x'=x:=C_ e1';subst ex;have hv:σ[j]? = some (some v):=by have z:σ.getD j none=some v:=C_ e2;rw[u_]at z;cases q:σ[j]? with
   |none=>rw[q]at z;cases z
   |some o=>rw[q]at z;rw[show o=some v from z]
   have hfree:=Ni q3;have kX:=sc.freeK _ hfree rfl;obtain⟨mx,hnx,hl⟩:=I.loc;obtain⟨u,ru,lk⟩:=hl j x' v q2 hv (.inr kX);refine⟨u,ru,.inr ?_⟩;obtain⟨c,ec⟩:=h2 x' hfree;have hkk:Env.kindOf (d4 X s H N' scope cl C fp).env x'=some .cell\/Env.kindOf (d4 X s H N' scope cl C fp).env x'=some .free:=by
    have z:(Rk scope X.env).names.lookup x'=some (df X.env x' .free):=by rw[Cj,q3];rfl
    show(Rk scope X.env).names.lookup x'=_\/(Rk scope X.env).names.lookup x'=_;rw[z];unfold df;split
    .exact .inl rfl
    .exact .inr rfl
   refine⟨hkk,c,ec,?_⟩;rcases lk with⟨k,_⟩|⟨_,c',ec',hcell⟩
   .rcases kX with z|z <;> rw[k]at z <;> cases z
   .rw[h1 x' c ec]at ec';cases ec';obtain⟨o,ho,hd⟩:=hcell;exact⟨o,kp c o ho,hd⟩
 .obtain⟨v,o,ho,hd⟩:=I.cell x c (h1 x c e);exact⟨v,o,kp c o ho,hd⟩
 .obtain⟨v,o,ho,hd⟩:=I.cell x c (h1 x c e);exact hH c (I.freeC x c (h1 x c e)) (t_ ho)
 .show(cR nl cap σ).length=N'.length;rw[sc.len];simp[cR]
end
section
variable{prog:D_}{w:Mu}{A:Mw}{R:Te->g_->Prop}{s:g_}
theorem GR{elt target iter:Expr}{ifs:List Expr}{scope:Oe}{pos:Pos}{it acc:b_}{env:Env}(I:Nat->g_->Prop)(turn:∀n s,I n s->z_ (E_ prog w) A (pyNext it) (fun r s1=>match r with
  |none=>R (.ok .next) s1
  |some v=>z_ (E_ prog w) A (O4 target it v) (fun _ s1'=>z_ (E_ prog w) A (Pe target env v) (fun _ s2=>
     z_ (E_ prog w) A (forIn ifs true fun c r=>if r=true then do let ok <-isTrue c env (eval c env);pure (ForInStep.yield ok)else pure (ForInStep.yield r)) (fun ok s3=>
      if ok=true then z_ (E_ prog w) A (eval elt env) (fun x s4=>z_ (E_ prog w) A (call (.builtin "list.append") [acc,x]) (fun _ s5=>∃m,m<n/\I m s5) (Qm (E_ prog w) A env fun e s'=>R (.error e) s') s4) (Qm (E_ prog w) A env fun e s'=>R (.error e) s') s3
      else ∃m,m<n/\I m s3) (Qm (E_ prog w) A env fun e s'=>R (.error e) s') s2) (Qm (E_ prog w) A env fun e s'=>R (.error e) s') s1')
     (Qm (E_ prog w) A env fun e s'=>R (.error e) s') s1) (Qm (E_ prog w) A env fun e s'=>R (.error e) s') s)(n:Nat)(h:I n s):Qb (E_ prog w) A (.compLoop (.ListComp elt [⟨target,iter,ifs,0⟩] scope pos) 0 it acc env) R s:=by refine codeAny_loop rfl I (fun n s hI=>?_) n h;show z_ _ A ((compTurn (.ListComp elt [⟨target,iter,ifs,0⟩] scope pos) 0 it acc env).onRaise (fun x=>do OT x env;theTreesLotGoes x)) _ _ s;refine wpAny_noted ?_;rw[compTurn_list];refine f_ (PJ (f_ (MS (turn n s hI) (fun r s1 h1=>?_) fun _ _ h'=>h')));cases r with
|none=>exact r_ h1
|some v=>refine f_ (MS h1 (fun _ s1' h1'=>?_) fun _ _ h'=>h');refine f_ (MS h1' (fun _ s2 h2=>f_ (MS h2 (fun ok s3 h3=>?_) fun _ _ h'=>h')) fun _ _ h'=>h');cases ok with
 |false=>exact r_ ⟨rfl,h3⟩
 |true=>exact f_ (f_ (MS h3 (fun x s4 h4=>f_ (MS h4 (fun _ s5 h5=>r_ (r_ ⟨rfl,h5⟩)) fun _ _ h'=>h')) fun _ _ h'=>h'))
end
def kt(X:Cx)(g:GE)(m:List Md)(ifs:List Expr)(f:FQ):Prop:=∀(pz:List (Addr×Obj))(s:g_)(σ:L2.St)(H:Hp)(Q:Bool->Hp->Prop),Inv X pz σ H s->tQ X g m f σ H Q ->z_ (E_ X.prog X.w) X.A (forIn ifs true fun c r=>if r=true then do let ok <-isTrue c X.env (eval c X.env);pure (ForInStep.yield ok)else pure (ForInStep.yield r)) (TP X pz σ Q) X.xe s
section
variable{X:Cx}{g:GE}{m:List Md}{c:Expr}{p:FQ}
theorem gz:kt X g m [] fun _=>.ok true:=fun pz s σ H Q I ⟨r,G,si,q⟩=>wpAny_tests_nil ⟨H,I,q G H (Grow.refl si.gok)⟩
theorem oF(h:SQ X g m c p):kt X g m [c] p:=fun pz s σ H Q I q=>wpAny_tests_one (h pz s σ H Q I q)
end
def iP(ft:FT)(nl:Nat):Prop:=∀d r r1,ft d r=some r1->r1.length=r.length/\∀i,nl<=i->r1[i]? = r[i]?
theorem eG{i nl:Nat}(h:i<nl):iP (aS i) nl:=fun d r r1 e=>by cases e;exact⟨by simp,fun j hj=>by rw[d_ (by omega)]⟩
section
variable{X:Cx}{pz:List (Addr×Obj)}{σ:L2.St}{H2:Hp}{s2:g_}{scope:Oe}{N':List Str}{nl:Nat}{cap:List Nat}{cl:List (Str×Addr)}{fp:List Addr}{g:GE}{G2:GH}{m:List Md}{r:aj}{elt tg iter:Expr}{ifs:List Expr}{pos:Pos}{J:It}{it:Addr}{tn:Nat->Heap->Prop}{ds vs:List D}{ft:FT}{q:FQ}{fe:FE}{E:b_->g_->Prop}
theorem GO(i:Nat):(aH nl cap m)[i]?≠some Md.ow:=fun h=>by
 by_cases hi:i<nl
 .unfold aH at h;rw[MK (by simpa using hi),Nb]at h;split at h <;> cases h
 .unfold aH at h;rw[l6 (by omega)]at h;cases e:cap[i-nl]? with
 |none=>rw[e]at h;cases h
 |some j=>rw[e]at h;have h':(if m.getD j Md.sh=Md.sh then Md.sh else Md.bw)=Md.ow:=C_ h;split at h' <;> cases h'
theorem JN{i:Nat}(hi:i<nl)(d:D):(a8 nl cap r)[i]?≠some (some d):=fun h=>by unfold a8 at h;rw[MK (by simpa using hi),Nb]at h;split at h <;> cases h
def vP(El:W.Frag->GH->Hp->GH->Hp->V->D->Prop)(X:Cx)(g:GE)(m:List Md)(f:FE):TE:=fun σ H Q=>∃r G,SI X g m r G σ H/\fin (f r) (fun d=>∀v G' H',Grow X.K G H G' H'->El X.K G H G' H' v d->Q v H') (XW X σ G H)
theorem B4{El:W.Frag->GH->Hp->GH->Hp->V->D->Prop}{Rl:Addr->GH->Hp->List V->List D->Prop}(R0:∀p G H,Rl p G H [] [])(Rg:∀{p G H G' H' ws ds},Rl p G H ws ds->Grow X.K G H G' H'->Rl p G' H' ws ds)(Rn:∀{p G H ws ds},Rl p G H ws ds->ws.length=ds.length)(Ra:∀{p G H G' H' ws ds v d},Rl p G H ws ds->Grow X.K G H G' H'->Grow X.K G2 H2 G H->H p=some (.lst ws)->El X.K G H G' H' v d->Rl p G' (upd H' p (.lst (ws++[v]))) (ws++[v]) (ds++[d]))(hN:X.N.Nodup)(hcalm:X.calm=true)(sc:CompSc X scope N' nl cap)(h1:∀x c,cl.lookup x=some c->X.env.cells.lookup x=some c)(h2:∀x,(x,NameKind.free)∈scope.names->∃c,cl.lookup x=some c)(I2:Inv X pz σ H2 s2)(si:SI X g m r G2 σ H2)(T:Turn X.prog X.w X.K tg J fp it tn)(st:tn 0 s2.heap)(hf:∀b∈fp,cS X pz H2 b)(Y:YieldsC X.K J ds G2 H2)(hsz:ds.length<=sizeLine)(hg:∀C,SG (d4 X s2 H2 N' scope cl C fp) ⟨G2,H2,fun _=>none⟩ (aH nl cap m) tg ft (aH nl cap m))(hft:iP ft nl)(hq:∀C,kt (d4 X s2 H2 N' scope cl C fp) ⟨G2,H2,fun _=>none⟩ (aH nl cap m) ifs q)(he:∀C,PE (d4 X s2 H2 N' scope cl C fp) elt (vP El (d4 X s2 H2 N' scope cl C fp) ⟨G2,H2,fun _=>none⟩ (aH nl cap m) fe))(hres:eu ft q fe (a8 nl cap r) ds=.ok vs){RR:b_->Addr->Te->g_->Prop}(hRR:∀(p C:Addr)(s':g_)(H':Hp)(G':GH),Inv X pz σ H' s'->(∃mm,s'.heap.Ns C mm)->H' C=none->C≠X.env.locals->X.s₀.heap.objs.size<=C->(∀x c,X.env.cells.lookup x=some c->c≠C)->(∀z∈X.pn++pz,z.1≠C) ->Grow X.K G2 H2 G' H'->H2 p=none->(∃ws,H' p=some (.lst ws)/\G' p=none/\Rl p G' H' ws vs)->RR (.ref p) C (.ok .next) s'):z_ (E_ X.prog X.w) X.A (newList []) (fun acc s3=>z_ (E_ X.prog X.w) X.A (newFunctionEnv scope X.env.globals cl [] X.env.qual none .none (some X.env)) (fun cenv s4=>Qb (E_ X.prog X.w) X.A (.compStart (.ListComp elt [⟨tg,iter,ifs,0⟩] scope pos) 0 (.ref it) acc { cenv with scope:=Rk scope X.env }) (RR acc cenv.locals) s4) E s3) E s2:=by
 refine Nd (wpAny_newFunctionEnv sc.nocell (by intro y hy;simp at hy) (fun h₁ hns₁ hsb₁=>?_) sc.kind)
 dsimp only at hns₁ hsb₁ ⊢
 generalize hH2:s2.heap.push { cls:=.type "list",dict:=none,data:=.seq ([]:List b_).toArray }=HH at hns₁ hsb₁ ⊢;have hC:HH.objs.size=s2.heap.objs.size+1:=by rw[<-hH2,OJ]
 have hDC:s2.heap.objs.size≠HH.objs.size:=by rw[hC];exact Mv (Om _)
 have hCle:s2.heap.objs.size<=HH.objs.size:=by rw[hC];exact RJ _
 have below:∀b,b<s2.heap.objs.size->b≠HH.objs.size/\b≠s2.heap.objs.size:=fun b hb=>⟨by rw[hC];exact Mv (Rj hb),Mv hb⟩
 have old:∀b o,s2.heap.get? b=some o->h₁.get? b=some o:=fun b o e=>hsb₁.extBut b o (below b (t_ e)).1 (m_ _ (hH2▸m_ _ e));have hacc:h₁.get? s2.heap.objs.size=some { cls:=.type "list",dict:=none,data:=.seq ([]:List b_).toArray }:=hsb₁.extBut _ _ hDC (m_ _ (hH2▸B_ _ rfl));have hp2:H2 s2.heap.objs.size=none:=I2.hok.fresh (w_ _);have hflt:∀b∈fp,cS X pz H2 b/\b<s2.heap.objs.size:=fun b hb=>⟨hf b hb,by obtain⟨o,e,_⟩:=T.obj 0 s2.heap st b hb;exact t_ e⟩
 have ok:=DA (fp:=fp) I2 sc h1 h2 hflt hCle;generalize hXX:d4 X s2 H2 N' scope cl HH.objs.size fp=XX at ok;have hG2p:G2 s2.heap.objs.size=none:=si.gok.isN hp2;have w0:Grow X.K G2 H2 G2 (upd H2 s2.heap.objs.size (.lst [])):=Grow.new si.gok hp2 _;have hok4:bU X.prog X.w (upd H2 s2.heap.objs.size (.lst [])) h₁:=I2.hok.laid old (w_ _) ⟨MD _,[],0,.nil,hacc⟩;have IC:Inv XX [] (cR nl cap σ) (upd H2 s2.heap.objs.size (.lst [])) { s2 with heap:=h₁,toks:=s2.toks+([]:List (Str×b_)).length }:=by
  subst hXX;refine Dz I2 ok sc h1 h2 hN rfl I2.bare old hns₁ hCle ?_ (fun b hb hlt=>?_) (Un.laid old (w_ _) hp2) hok4
  .rw[aZ (NO hDC)];exact I2.hok.fresh hCle
  .rw[aZ (below b hlt).2];exact hb
 have SC:SI XX ⟨G2,H2,fun _=>none⟩ (aH nl cap m) (a8 nl cap r) G2 (cR nl cap σ) (upd H2 s2.heap.objs.size (.lst [])):=by subst hXX;exact Dw si w0
 have hst₁:tn 0 h₁:=T.keep _ _ _ st fun b _ o e=>old b o e;have hfX:∀(H':Hp),(∀b∈fp,H' b=none)->∀b∈fp,cS XX [] H' b:=fun H' hn b hb=>by
  clear IC SC;subst hXX;obtain⟨z0,z1,z2,z3,z4,z5⟩:=hf b hb;refine⟨hn b hb,?_,?_,?_,?_,?_⟩
  .exact(below b (hflt b hb).2).1
  .intro hfs;rcases p_.mp (I2.stkSub b hfs)with z|z
   .exact z1 z
   .exact z2 z
  .exact .inl hb
  .exact fun x c e=>z4 x c (h1 x c e)
  .intro p hp;exact absurd (show p∈([]:List (Addr×Obj))from hp) (by simp)
 have eA:XX.A=X.A:=Eq.rec (motive:=fun z _=>z.A=X.A) rfl hXX;have eP:XX.prog=X.prog:=Eq.rec (motive:=fun z _=>z.prog=X.prog) rfl hXX;have eW:XX.w=X.w:=Eq.rec (motive:=fun z _=>z.w=X.w) rfl hXX;have eK:XX.K=X.K:=Eq.rec (motive:=fun z _=>z.K=X.K) rfl hXX;have eX:XX.xe=fun _ _=>False:=Eq.rec (motive:=fun z _=>z.xe=fun _ _=>False) rfl hXX;have eE:XX.env=QE scope cl HH.objs.size X.env:=Eq.rec (motive:=fun z _=>z.env=QE scope cl HH.objs.size X.env) rfl hXX;have eC:XX.calm=true:=Eq.rec (motive:=fun z _=>z.calm=true) hcalm hXX;have eH:XX.H₀=H2:=Eq.rec (motive:=fun z _=>z.H₀=H2) rfl hXX;have hg':PG XX tg (tG XX ⟨G2,H2,fun _=>none⟩ (aH nl cap m) (aH nl cap m) ft):=Eq.rec (motive:=fun z _=>PG z tg (tG z ⟨G2,H2,fun _=>none⟩ (aH nl cap m) (aH nl cap m) ft)) (hg _).2 hXX;have hq':kt XX ⟨G2,H2,fun _=>none⟩ (aH nl cap m) ifs q:=Eq.rec (motive:=fun z _=>kt z ⟨G2,H2,fun _=>none⟩ (aH nl cap m) ifs q) (hq _) hXX;have he':PE XX elt (vP El XX ⟨G2,H2,fun _=>none⟩ (aH nl cap m) fe):=Eq.rec (motive:=fun z _=>PE z elt (vP El z ⟨G2,H2,fun _=>none⟩ (aH nl cap m) fe)) (he _) hXX;have fin':∀{H':Hp}{s':g_}{σ':L2.St}{G':GH}{ws:List V},Inv XX [] σ' H' s'->Grow X.K G2 H2 G' H'->H' s2.heap.objs.size=some (.lst ws)->G' s2.heap.objs.size=none->Rl s2.heap.objs.size G' H' ws vs->RR (.ref s2.heap.objs.size) HH.objs.size (.ok .next) s':=fun{H' s' σ' G' ws} J1 wg hpp hgp rs=>by
  clear IC SC hfX hg' hq' he' eA eP eW eK eX eE eC eH;subst hXX;have un:=J1.base;refine hRR _ _ s' H' G' ?_ (let⟨mm,hn,_⟩:=J1.loc;⟨mm,hn⟩) J1.free (Ol (A_ I2.lt hCle)) (MI I2.sz hCle) (fun x c e z=>?_) (fun z hz e=>?_) wg hp2 ⟨_,hpp,hgp,rs⟩
  .refine I2.call' J1.os un J1.hok J1.bare fun b hb=>?_;obtain⟨z0,z1,z2,z3,z4,z5⟩:=hf b hb;exact⟨z3,z1,z4,z5⟩
  .obtain⟨v,o,ho,_⟩:=I2.cell x c e;exact absurd (A_ (t_ ho) hCle) (by rw[z];exact MX _)
  .have:=(I2.pin z hz).1;exact absurd (A_ (t_ this) hCle) (by rw[e];exact MX _)
 have loop:Qb (E_ X.prog X.w) X.A (.compLoop (.ListComp elt [⟨tg,iter,ifs,0⟩] scope pos) 0 (.ref it) (.ref s2.heap.objs.size) (QE scope cl HH.objs.size X.env)) (RR (.ref s2.heap.objs.size) HH.objs.size)
   { s2 with heap:=h₁,toks:=s2.toks+([]:List (Str×b_)).length }:=by
  refine GR (fun n s'=>∃(i:Nat)(σ':L2.St)(H':Hp)(G':GH)(ws:List V)(done rest:List D),Inv XX [] σ' H' s'/\SI XX ⟨G2,H2,fun _=>none⟩ (aH nl cap m) (a8 nl cap r) G' σ' H'/\tn i s'.heap/\(∀b∈fp,H' b=none)/\Grow X.K G2 H2 G' H' /\H' s2.heap.objs.size=some (.lst ws)/\G' s2.heap.objs.size=none/\Rl s2.heap.objs.size G' H' ws done/\eu ft q fe (a8 nl cap r) (ds.drop i)=.ok rest/\vs=done++rest/\done.length<=i/\i<=ds.length/\n=ds.length-i) ?_ ds.length
   ⟨0,_,_,G2,[],[],vs,IC,SC,hst₁,fun b hb=>?_,w0,bT,hG2p,R0 _ _ _,hres,rfl,w_ _,MD _,rfl⟩
  rotate_left
  .rw[aZ (below b (hflt b hb).2).2];exact(hf b hb).1
  rintro n s3 ⟨i,σ3,H3,G3,ws,done,rest,I3,S3,st3,fr3,w3,hp3,hg3,rs3,hr3,hv3,hd3,hi3,rfl⟩
  have weaken:∀{α:Type}{t:Sem α}{Q:α->g_->Prop}{s':g_}{E':b_->g_->Prop},z_ (E_ XX.prog XX.w) XX.A t Q XX.xe s'->z_ (E_ X.prog X.w) X.A t Q E' s':=fun h=>by rw[eP,eW,eA,eX]at h;exact MS h (fun _ _ z=>z) fun _ _ z=>z.elim
  by_cases hlt:i<ds.length
  .have hd:ds.drop i=ds[i]::ds.drop (i+1):=Ny hlt;rw[hd]at hr3;unfold eu at hr3;have it3:=T.item XX eP eW eK eC i [] s3 σ3 H3 (Qm (E_ X.prog X.w) X.A (QE scope cl HH.objs.size X.env) fun e s'=>RR (.ref s2.heap.objs.size) HH.objs.size (.error e) s') I3 (hfX H3 fr3) st3 (Y.go G3 H3 i w3 hlt);rw[eA]at it3;refine aG it3 fun rr s4 ⟨u,hr,h4⟩=>?_;subst hr;refine aG h4 fun _ s5 ⟨x,H5,I5,r5,y5,st5,fr5⟩=>?_;obtain⟨G5,w5,rv5⟩:=Y.yld G3 H3 i x H5 ds[i] w3 y5 (n_ hlt);have w25:=w3.trans w5;cases eft:ft ds[i] (a8 nl cap r)with
  |none=>rw[eft]at hr3;cases hr3
  |some r1=>
    rw[eft]at hr3;simp only[opt_some,bind_ok]at hr3;have I5':=I5.pinned (hfX H5 fr5) (T.obj _ _ st5);have S5:SI XX ⟨G2,H2,fun _=>none⟩ (aH nl cap m) (a8 nl cap r) G5 σ3 H5:=S3.grow (by rw[eK];exact w5);have rv5':RG XX.K G5 x ds[i]:=by rw[eK];exact rv5
    have as5:=hg' _ s5 σ3 H5 x u (fun σ6 H6=>H6=H5/\SI XX ⟨G2,H2,fun _=>none⟩ (aH nl cap m) r1 G5 σ6 H5) I5' r5 ⟨a8 nl cap r,G5,ds[i],S5,rv5',r1,eft,fun σ6 si6=>⟨rfl,si6⟩⟩;rw[eE]at as5;refine aG (weaken as5) fun _ s6 ⟨σ6,H6,I6,e6,S6⟩=>?_;subst e6;obtain⟨fl1,fl2⟩:=hft _ _ _ eft;cases eq1:q r1 with
   |stuck=>rw[eq1]at hr3;cases hr3
   |exc xx=>rw[eq1]at hr3;cases hr3
   |ok b1=>
     rw[eq1]at hr3;simp only[bind_ok]at hr3;have te6:=hq' _ s6 σ6 H6 (fun b H7=>b=b1/\∃G7,Grow X.K G5 H6 G7 H7) I6 ⟨r1,G5,S6,by rw[eq1];exact fun G7 H7 w7=>⟨rfl,G7,by rw[eK]at w7;exact w7⟩⟩;rw[eE]at te6;refine aG (weaken te6) fun b s7 ⟨H7,I7,eb,G7,w7⟩=>?_;subst eb;have S7:SI XX ⟨G2,H2,fun _=>none⟩ (aH nl cap m) r1 G7 σ6 H7:=S6.grow (by rw[eK];exact w7);have w27:=w25.trans w7;have hp7:H7 s2.heap.objs.size=some (.lst ws):=w7.he _ _ (w5.he _ _ hp3);have hg7:G7 s2.heap.objs.size=none:=by rw[w7.gf _ (by rw[w5.he _ _ hp3];simp),w5.gf _ (by rw[hp3];simp)];exact hg3
     have back:∀{σ8:L2.St}{H8:Hp}{G8:GH}{s8:g_},Inv XX ([]++lX fp s5.heap) σ8 H8 s8->Inv XX [] σ8 H8 s8/\tn (i+1) s8.heap/\∀b∈fp,H8 b=none:=fun{σ8 H8 G8 s8} I8=>by refine⟨I8.unpinned,T.keep _ _ _ st5 fun b hb o e=>(I8.pin (b,o) (Mr _ (Mr _ (pd hb e)))).1,fun b hb=>?_⟩;obtain⟨o,e,_⟩:=T.obj _ _ st5 b hb;exact(I8.pin (b,o) (Mr _ (Mr _ (pd hb e)))).2.1
     have less:∀{σ8:L2.St}{H8:Hp}{G8:GH},SI XX ⟨G2,H2,fun _=>none⟩ (aH nl cap m) r1 G8 σ8 H8->SI XX ⟨G2,H2,fun _=>none⟩ (aH nl cap m) (a8 nl cap r) G8 σ8 H8:=fun h=>h.less fl1.symm fun j d hj=>by
      by_cases hjn:j<nl
      .exact absurd hj (JN hjn d)
      .rw[fl2 j (by omega)];exact hj
     cases b with
    |false=>rw[if_neg i_]at hr3 ⊢;obtain⟨I7',t7,f7⟩:=back (G8:=G7) I7;exact⟨ds.length-(i+1),by omega,i+1,σ6,H7,G7,ws,done,rest,I7',less S7,t7,f7,w27,hp7,hg7,Rg rs3 (w5.trans w7),hr3,hv3,by omega,hlt,rfl⟩
    |true=>rw[if_pos rfl]at hr3 ⊢;cases ee1:fe r1 with
     |stuck=>rw[ee1]at hr3;cases hr3
     |exc xx=>rw[ee1]at hr3;cases hr3
     |ok d1=>rw[ee1]at hr3;simp only[bind_ok]at hr3;cases er:eu ft q fe (a8 nl cap r) (ds.drop (i+1))with
      |stuck=>rw[er]at hr3;cases hr3
      |exc xx=>rw[er]at hr3;cases hr3
      |ok rest'=>
        rw[er]at hr3;simp only[bind_ok]at hr3;cases hr3;have el7:=he' _ s7 σ6 H7 (fun v H8=>∃G8,Grow X.K G7 H7 G8 H8/\El X.K G7 H7 G8 H8 v d1) I7 ⟨r1,G7,S7,by rw[ee1];exact fun v G8 H8 w8 rv=>⟨G8,by rw[eK]at w8;exact w8,by rw[eK]at rv;exact rv⟩⟩;rw[eE]at el7;refine aG (weaken el7) fun u8 s8 ⟨v8,H8,I8,r8,G8,w8,rv8⟩=>?_;have hp8:H8 s2.heap.objs.size=some (.lst ws):=w8.he _ _ hp7;have hg8:G8 s2.heap.objs.size=none:=by rw[w8.gf _ (by rw[hp7];simp)];exact hg7
        have S8:SI XX ⟨G2,H2,fun _=>none⟩ (aH nl cap m) r1 G8 σ6 H8:=S7.grow (by rw[eK];exact w8);have hlen:=Rn rs3;have ap8:=mH (X:=XX) _ s8 σ6 H8 (.ref s2.heap.objs.size) [v8] (.ref s2.heap.objs.size) [u8] (fun v H9=>H9=upd H8 s2.heap.objs.size (.lst (ws++[v8]))) I8 rfl (.cons r8 .nil) ⟨_,ws,v8,rfl,rfl,hp8,by omega,rfl⟩;refine aG (weaken ap8) fun u9 s9 ⟨v9,H9,I9,r9,e9⟩=>?_;subst e9;obtain⟨I9',t9,f9⟩:=back (G8:=G8) I9;have rsn:=Ra (Rg rs3 (w5.trans w7)) w8 w27 hp7 rv8;have w28:=w27.trans w8;refine⟨ds.length-(i+1),by omega,i+1,σ6,_,G8,ws++[v8],done++[d1],rest',I9',less (S8.other hg8 hp2 GO _),t9,f9,?_,bT,hg8,rsn,er,by rw[hv3,M3];rfl,by rw[MO,Qw];omega,hlt,rfl⟩;refine⟨fun b e hb=>(w28.ok b e hb).mono (fun _ _ z=>z) fun o z=>?_,fun b o hb=>?_,w28.ge,w28.gf⟩
        .rw[aZ (by rintro rfl;rw[hg8]at hb;cases hb)];exact z
        .rw[aZ (by rintro rfl;rw[hp2]at hb;cases hb)];exact w28.he b o hb
  .have e:i=ds.length:=by omega
   subst e;rw[OU]at hr3;cases hr3;rw[ML]at hv3;subst hv3;have dn:=T.done XX eP eW eK eC ds.length [] s3 σ3 H3 (Qm (E_ X.prog X.w) X.A (QE scope cl HH.objs.size X.env) fun e s'=>RR (.ref s2.heap.objs.size) HH.objs.size (.error e) s') I3 (hfX H3 fr3) st3 (Y.stop G3 H3 w3);rw[eA]at dn;refine aG dn fun rr s4 ⟨hr,I4⟩=>?_;subst hr;exact fin' I4 w3 hp3 hg3 rs3
 exact codeAny_compStart_list loop (T.self X.A 0 _ _ _ hst₁ loop)
end
def nC:Res (List D)->Res (List D)
|.ok d=>.ok d
|_=>.stuck
@[simp] theorem noXL_ok(d:List D):nC (.ok d)=.ok d:=rfl
def cU(nl:Nat)(cap:List Nat)(fi:FI)(ft:FT)(q:FQ)(fe:FE):FE:=fun r=>(fi r).bind fun ds=>(bK (sz ds)).bind fun ds=>(nC (eu ft q fe (a8 nl cap r) ds)).bind fun vs=>.ok (.lst vs)
section
variable{X:Cx}{g:GE}{m mb:List Md}{scope:Oe}{N':List Str}{nl:Nat}{cap:List Nat}{elt tg iter:Expr}{ifs:List Expr}{pos pos' spos:Pos}{fi:FI}{ft:FT}{q:FQ}{fe:FE}{ro:Bool}
theorem A4{r:aj}{P:D->Prop}{x:D->Prop}(h:fin (cU nl cap fi ft q fe r) P x):fin (fi r) (fun ds=>∃vs,ds.length<=sizeLine/\eu ft q fe (a8 nl cap r) ds=.ok vs/\P (.lst vs)) x:=by unfold cU at h;refine aW (aY h) fun ds h1=>?_;obtain⟨ds',e2,h2⟩:=cb (aY h1);obtain⟨rfl,hl⟩:=qL e2;cases e3:eu ft q fe (a8 nl cap r) ds' with
|ok vs=>rw[e3]at h2;exact⟨vs,hl,rfl,h2⟩
|exc x=>rw[e3]at h2;exact h2.elim
|stuck=>rw[e3]at h2;exact h2.elim
theorem CompSc.clo{pz:List (Addr×Obj)}{σ:L2.St}{H:Hp}{s:g_}(sc:CompSc X scope N' nl cap)(ok:X.Ok):∃cl,R7 scope X.env=pure cl/\(∀x c,cl.lookup x=some c->X.env.cells.lookup x=some c)/\(∀x,(x,NameKind.free)∈scope.names->∃c,cl.lookup x=some c):=J0 fun y hy hf=>ok.has y.1 (sc.freeK y hy hf)
theorem g9(hN:X.N.Nodup)(hcalm:X.calm=true)(sc:CompSc X scope N' nl cap)(hi:gX X g m tg iter fi)(hg:∀s0 H0 cl C fp g',SG (d4 X s0 H0 N' scope cl C fp) g' (aH nl cap m) tg ft (aH nl cap m))(hft:iP ft nl)(hq:∀s0 H0 cl C fp g',kt (d4 X s0 H0 N' scope cl C fp) g' (aH nl cap m) ifs q)(he:∀s0 H0 cl C fp g',SE (d4 X s0 H0 N' scope cl C fp) g' (aH nl cap m) elt fe)(hs:∀x,NE iter X.env x=pure x:=by intro _;rfl):SO X g m (.ListComp elt [⟨tg,iter,ifs,0⟩] scope pos) (cU nl cap fi ft q fe):=by
 intro pz s σ H Q I h;obtain⟨r,G,si,k⟩:=h;obtain⟨cl,hcl,h1,h2⟩:=sc.clo (pz:=pz) (σ:=σ) (H:=H) (s:=s) I.ok;have k1:=A4 k;rw[eval_ListComp];refine PM (use:=none) rfl hs hcl sc.kind sc.names (aG (hi pz s σ H (fun J H'=>∃G' ds vs,Grow X.K G H G' H'/\YieldsC X.K J ds G' H'/\ds.length<=sizeLine/\eu ft q fe (a8 nl cap r) ds=.ok vs /\(∀a G' H',Grow X.K G H G' H'->H a=none->Own X.K G' H' a (.lst vs)->Q (.ref a) H')) I ⟨r,G,si,aW k1 fun ds ⟨vs,z1,z2,z3⟩ J G' H' w y=>⟨G',ds,vs,w,y,z1,z2,z3⟩⟩) fun v s1 hv=>aG hv fun itv s2 hv2=>?_);obtain⟨it,fp,tn,J,H2,rfl,I2,T,st,hf,G2,ds,vs,w2,Y,hsz,hres,hQ⟩:=hv2;refine B4 (El:=fun K _ _ G' _ v d=>RG K G' v d) (Rl:=fun _ G _ ws ds=>bx X.K G ws ds) (fun _ _ _=>.nil) (fun h w=>h.mono w.ge) Paired.length (fun h w _ _ e=>Paired.snoc (h.mono w.ge) e) (RR:=fun acc C=>compPost (E_ X.prog X.w) X.A X.xe none (EP X pz σ Q) acc C) hN hcalm sc h1 h2 I2 (si.grow w2) T st hf Y hsz (fun C=>hg _ _ _ _ _ _) hft (fun C=>hq _ _ _ _ _ _) (fun C=>he _ _ _ _ _ _) hres ?_;intro p C s' H' G' I' hns hC1 hC2 hC3 hC4 hC5 w' hp ⟨ws,o1,o2,o3⟩;have ho:Own X.K G' H' p (.lst vs):=⟨o2,.lst o1 o3⟩
 obtain⟨mm,hn⟩:=hns;refine⟨mm,hn,fun h' hsb=>⟨.ref p,H',?_,rfl,hQ p G' H' (w2.trans w') (w2.back hp) ho⟩⟩;exact I'.turned (it:=C) (t':=s'.toks) (fun b o hb e=>hsb.extBut b o hb e) hC1 hC2.symm.symm (.inr hC3) hC4 hC5
theorem mJ(i:Nat){y:Str}(hN:X.N.Nodup)(hcalm:X.calm=true)(hy:X.N[i]? = some y)(hyl:X.env.scope.names.lookup y=some .local)(sc:CompSc X scope N' nl cap)(hi:gX X g m tg iter fi)(hg:∀s0 H0 cl C fp g',SG (d4 X s0 H0 N' scope cl C fp) g' (aH nl cap m) tg ft (aH nl cap m))(hft:iP ft nl)(hq:∀s0 H0 cl C fp g',kt (d4 X s0 H0 N' scope cl C fp) g' (aH nl cap m) ifs q)(he:∀s0 H0 cl C fp g',SE (d4 X s0 H0 N' scope cl C fp) g' (aH nl cap m) elt fe)(hsw:Pc (.ListComp elt [⟨tg,iter,ifs,0⟩] scope pos) (some (.Name y pos')) spos.line X.env=pure true:=by rfl)(hs:∀x,NE iter X.env x=pure x:=by intro _;rfl):SS X g ro mb m (.Assign [.Name y pos'] (.ListComp elt [⟨tg,iter,ifs,0⟩] scope pos) spos) (ap m i (cU nl cap fi ft q fe)) (m.set i .ow):=by
 refine⟨by simp,?_⟩;intro pz s σ H D0 I h;obtain⟨r,G,si,k⟩:=h;obtain⟨cl,hcl,h1,h2⟩:=sc.clo (pz:=pz) (σ:=σ) (H:=H) (s:=s) I.ok;have k1:=A4 (fw si (m':=m.set i .ow) (by simp) k);rw[exec_Assign_Name_used _ _ _ _ hsw];refine f_ (PJ (f_ ?_));show z_ _ X.A (do let _ <-comprehension (.ListComp elt [⟨tg,iter,ifs,0⟩] scope pos) scope X.env _ (newList []) false (eval iter X.env) (some (Pe (.Name y pos') X.env))) _ _ s;refine f_ (MS (PM (use:=some (Pe (.Name y pos') X.env)) (Q:=fun _ s'=>SP X pz D0 .next s') rfl hs hcl sc.kind sc.names (aG (hi pz s σ H (fun J H'=>∃G' ds vs,Grow X.K G H G' H'/\YieldsC X.K J ds G' H'/\ds.length<=sizeLine/\eu ft q fe (a8 nl cap r) ds=.ok vs /\(∀σ' G' H',aM G G'->SI X g (m.set i .ow) (r.set i (some (.lst vs))) G' σ' H'->D0.nx σ' H')) I ⟨r,G,si,aW k1 fun ds ⟨vs,z1,z2,z3⟩ J G' H' w y=>⟨G',ds,vs,w,y,z1,z2,z3⟩⟩) fun v s1 hv=>aG hv fun itv s2 hv2=>?_)) (fun _ s' hq=>r_ (r_ hq)) fun _ _ e=>e);obtain⟨it,fp,tn,J,H2,rfl,I2,T,st,hf,G2,ds,vs,w2,Y,hsz,hres,hQ⟩:=hv2;refine B4 (El:=fun K _ _ G' _ v d=>RG K G' v d) (Rl:=fun _ G _ ws ds=>bx X.K G ws ds) (fun _ _ _=>.nil) (fun h w=>h.mono w.ge) Paired.length (fun h w _ _ e=>Paired.snoc (h.mono w.ge) e) (RR:=fun acc C=>compPost (E_ X.prog X.w) X.A X.xe (some (Pe (.Name y pos') X.env)) (fun _ s'=>SP X pz D0 .next s') acc C) hN hcalm sc h1 h2 I2 (si.grow w2) T st hf Y hsz (fun C=>hg _ _ _ _ _ _) hft (fun C=>hq _ _ _ _ _ _) (fun C=>he _ _ _ _ _ _) hres ?_;intro p C s' H' G' I' hns hC1 hC2 hC3 hC4 hC5 w' hp ⟨ws,o1,o2,o3⟩;have ho:Own X.K G' H' p (.lst vs):=⟨o2,.lst o1 o3⟩
 obtain⟨mm,hn⟩:=hns;show z_ _ X.A (Pe (.Name y pos') X.env (.ref p)) _ _ s';refine Q_ (Bz I' hN hy (.inl hyl) (v:=.ref p) rfl (fun s'' I'' ⟨a,hsb,ha⟩=>?_) (.inr hyl));have hCa:C≠a:=by
  rcases ha with z|z
  .rw[z];exact hC2
  .exact(hC4 y a z).symm
 refine⟨mm,hn.sameBut hsb hCa,fun h' hsb'=>?_⟩;refine⟨_,H',I''.turned (it:=C) (t':=s''.toks) (fun b o hb e=>hsb'.extBut b o hb e) hC1 hC2 (.inr hC3) hC4 hC5,?_⟩;exact hQ _ G' H' (w2.trans w').ge (si.setN (w2.trans w') i (w2.back hp) ho)
end
def fZ(K:W.Frag)(r:V->List V->Hp->VK->Prop)(mk:D->List D->Option D):Prop:=∀(G:GH)(H:Hp)(a:Addr)(d:D)(vs:List V)(ds:List D)(d':D)(Q:VK),aI K G H->Own K G H a d->bx K G vs ds->mk d ds=some d' ->(∀o',OwnO K G (upd H a o') a d'->Q .non (upd H a o'))->r (.ref a) vs H Q
def qe(T:String):D->Bool
|.lst _=>T == "list"
|.dic _=>T == "dict"
|_=>false
def cM(T:String)(m:List Md)(i:Nat)(fl:aj->Res (List D))(mk:D->List D->Option D):FS:=fun r=>match r[i]? with
|some (some d)=>if qe T d=true then onE m r (fl r) fun ds=>(match mk d ds with
 |some d'=>.nx (r.set i (some d'))
 |none=>.stuck)else .stuck
|_=>.stuck
theorem Fm{K:W.Frag}{G:GH}{H:Hp}{a:Addr}{d:D}{T:String}(o:Own K G H a d)(t:qe T d=true):lv K T (.ref a) H:=by cases o.ob with
|lst r s=>exact .inl ⟨No t,_,aU.of r⟩
|dic r s=>exact .inr (.inr (.inl ⟨No t,.inl ⟨_,.inl r⟩⟩))
section
variable{X:Cx}{g:GE}{m mb:List Md}{e a b o:Expr}{es:List Expr}{f fa fb:FE}{fl:aj->Res (List D)}{pos pos' apos cpos:Pos}{ro:Bool}{x name:Str}{T id:String}{R:V->List V->Hp->VK->Prop}{mk:D->List D->Option D}
theorem Jj(i:Nat)(hm:m[i]? = some .ow)(hk:fZ X.K R mk){D0:Ends}{σ:L2.St}{H:Hp}(h:tS X g ro m m mb (cM T m i fl mk) D0 σ H):∃v,σ[i]? = some (some v)/\lv X.K T v H/\tL X g m fl σ H fun xs H2=>R v xs H2 fun _ H1=>D0.nx σ H1:=by obtain⟨r,G,si,k⟩:=h;unfold cM at k;cases er:r[i]? with
|none=>simp only[er]at k;exact(show False from k).elim
|some oo=>cases oo with
 |none=>simp only[er]at k;exact(show False from k).elim
 |some d=>
   simp only[er]at k;by_cases ht:qe T d=true
   .rw[if_pos ht]at k;obtain⟨a,h1,h2,h3⟩:=si.mut hm er;refine⟨_,h1,Fm h2 ht,r,G,si,aW (fw si rfl k) fun ds k2 vs G' H' w rs=>?_⟩;cases em:mk d ds with
   |none=>simp only[em]at k2;exact(show False from k2).elim
   |some d'=>simp only[em]at k2;obtain⟨a',h1',h2',h3'⟩:=(si.grow w).mut hm er;rw[h1]at h1';cases h1';exact hk G' H' a d vs ds d' _ w.ok h2' rs em fun o' ob=>k2 σ G' _ w.ge (h3' o' d' ob)
   .rw[if_neg ht]at k;exact(show False from k).elim
theorem iY(i:Nat)(hm:m[i]? = some .ow)(pa:Q0 T)(slot:Slot T name id)(hty:Rw (.builtin id)=pure (.type "method_descriptor"))(hmt:f8 X id R)(hk:fZ X.K R mk)(hN:X.N[i]? = some x)(hv:fD X.env.scope x)(ha:SA X g m (e::es) fl)(hd:(x==("__debug__" : Str))=false:=by decide)(hcd:(x==("__classdict__" : Str))=false:=by decide)(hbase:N8 (.Name x pos') name X.env (eval (.Name x pos') X.env)=eval (.Name x pos') X.env:=by rfl)(hfew:((backTo cpos (j_ (e::es) X.env)).all (fun x=>! x.1)&&(Ri cpos (Px [] X.env)).all (fun x=>x.1.isSome)&&decide ((e::es).length+([]:List OX).length+(if ([]:List OX).isEmpty then 0 else 1)<30))=true:=by rfl)(hline:(apos.endLine==cpos.line)=true:=by rfl)(hst:j_ (e::es) X.env=(false,eval e X.env)::j_ es X.env:=by rfl)(hplain:(backTo cpos (j_ es X.env)).any (·.1)=false:=by rfl):SS X g ro mb m (.Expr (.Call (.Attribute (.Name x pos') name apos) (e::es) [] cpos) pos) (cM T m i fl mk) m:=⟨rfl,PS.imp (z8 (xI pa slot hty hmt (kO hN hv hd hcd) ha hbase hfew hline hst hplain)) fun D0 σ H h=>Jj i hm hk h⟩
def appD:D->List D->Option D
|.lst ds,[d]=>if ds.length<sizeLine then some (.lst (ds++[d]))else none
|_,_=>none
theorem ou{K:W.Frag}:fZ K z9 appD:=by
 intro G H a d vs ds d' Q gk ow rs e q;unfold appD at e;split at e
 .split at e
  .rename_i hl;cases e;cases ow.ob with
  |lst r s=>cases rs with
   |cons r1 t=>cases t;have:=Paired.length s;exact⟨a,_,_,rfl,rfl,r,by omega,q _ (.lst bT (Paired.snoc s r1))⟩
  .cases e
 .cases e
theorem Paired.rev{α β:Type}{F:α->β->Prop}:∀{l:List α}{r:List β},Paired F l r->Paired F l.reverse r.reverse
|_,_,.nil=>.nil
|_,_,.cons h t=>by rw[OM,OM];exact Paired.snoc (Paired.rev t) h
def qx(x:Int)(n:Nat):Nat:=if x<0 then(x+(n:Int)).toNat else min x.toNat n
def bO{α:Type}(xs:List α)(x:Int)(y:α):List α:=xs.take (qx x xs.length)++y::xs.drop (qx x xs.length)
def Ab:V->List V->Hp->VK->Prop:=fun x vs H Q=>∃l xs i y,x=.ref l/\vs=[.int i,y]/\H l=some (.lst xs)/\-(2^63)<=i/\i<2^63/\xs.length<sizeLine/\Q .non (upd H l (.lst (bO xs i y)))
theorem Jx:f8 X "list.insert" Ab:=by
 intro pz s σ H x vs v us Q I rx rv h;obtain⟨l,xs,i,y,rfl,rfl,hH,h1,h2,hz,q⟩:=h;cases rx;obtain⟨u,w',rfl,⟨t,rfl⟩,ry⟩:=qM rv;obtain⟨z,its,n,r,hl,e⟩:=I.lstM hH;have hfit:¬(! R8 i)=true:=by rw[fitsIndex_both h1 h2];exact i_
 refine Q1 PN ⟨_,e,rfl⟩ PySem.F.entry_list_insert (PySem.F.args_list_insert_3 _ _ _) (AutoListH.list_insert_list_int_val_1 l its.toArray n i t w' hfit (by rw[s_];omega)) ⟨e,?_⟩;refine⟨.non,_,I.lset (its':=bO its i w') hH e ?_ ?_ ?_,rfl,q⟩
 .show((its.toArray.extract 0 (if i<0 then(i+((its.toArray.size:Nat):Int)).toNat else min i.toNat its.toArray.size)).push w'++its.toArray.extract (if i<0 then(i+((its.toArray.size:Nat):Int)).toNat else min i.toNat its.toArray.size))=(bO its i w').toArray;rw[s_];unfold bO qx;generalize(if i<0 then(i+((its.length:Nat):Int)).toNat else min i.toNat its.length)=k;apply Tw;simp;exact Qn (by rw[OS];exact w_ _)
 .unfold bO;rw[hl];exact ai.append (r.take _) (.cons ry (r.drop _))
 .unfold bO;rw[MO,MM,Nm,OS];omega
def insD:D->List D->Option D
|.lst ds,[.int i,d]=>if ds.length<sizeLine/\-(2^63)<=i/\i<2^63 then some (.lst (bO ds i d))else none
|_,_=>none
theorem E5{α β:Type}{F:α->β->Prop}{l:List α}{r:List β}{x:α}{y:β}(h:Paired F l r)(i:Int)(hxy:F x y):Paired F (bO l i x) (bO r i y):=by unfold bO;rw[Paired.length h];exact Paired.app (Paired.tk _ h) (.cons hxy (Paired.dr _ h))
theorem E6{K:W.Frag}:fZ K Ab insD:=by
 intro G H a d vs ds d' Q gk ow rs e q;unfold insD at e;split at e
 .split at e
  .rename_i hl;cases e;cases ow.ob with
  |lst r s=>cases rs with
   |cons r1 t=>cases t with
    |cons r2 t=>cases t;have:=Paired.length s;exact⟨a,_,_,_,rfl,by rw[r1.int gk],r,hl.2.1,hl.2.2,by omega,q _ (.lst bT (E5 s _ r2))⟩
  .cases e
 .cases e
end
def cI:D->Bool
|.non=>true
|.bl _=>true
|.int _=>true
|.str _=>true
|_=>false
def dz:D->V
|.non=>.non
|.bl b=>.bl b
|.int i=>.int i
|.str x=>.str x
|_=>.non
def eqs(a b:D):Bool:=dZ (dz a) (dz b)
@[simp] theorem eqs_int(a b:Int):eqs (.int a) (.int b)=(a==b):=rfl
@[simp] theorem eqs_str(a b:Str):eqs (.str a) (.str b)=(a==b):=rfl
@[simp] theorem eqs_non_int(b:Int):eqs .non (.int b)=false:=rfl
@[simp] theorem eqs_int_non(b:Int):eqs (.int b) .non=false:=rfl
section
variable{K:W.Frag}{G:GH}{H:Hp}{v:V}{d:D}
theorem RB.flat(h:RB K G H v d)(gk:aI K G H)(hf:cI d=true):v=dz d/\eD v=true:=by cases d with
|non=>rw[h.non gk];exact⟨rfl,rfl⟩
|bl b=>rw[h.bl gk];exact⟨rfl,rfl⟩
|int i=>rw[h.int gk];exact⟨rfl,rfl⟩
|str x=>rw[h.str gk];exact⟨rfl,rfl⟩
|_=>cases hf
theorem wX{xs:List V}{ds:List D}(h:bx K G xs ds)(gk:aI K G H)(hf:ds.all cI=true):xs=ds.map dz/\xs.all eD=true:=by induction h with
|nil=>exact⟨rfl,rfl⟩
|cons r t ih=>rw[Nq,I_]at hf;obtain⟨e1,e2⟩:=RB.flat (H:=H) r.rb gk hf.1;obtain⟨e3,e4⟩:=ih hf.2;exact⟨by rw[G_,<-e3,<-e1],by rw[Nq,e2,e4];rfl⟩
end
def dG:D->Option au
|.int i=>some (.inl i)
|.str x=>some (.inr x)
|_=>none
def cO(kvs:List (au×D))(k:au):Bool:=kvs.any fun kv=>decide (kv.1=k)
def bc(kvs:List (au×D))(k:au):Option D:=(kvs.find? fun kv=>decide (kv.1=k)).map (·.2)
def inB(x c:D):Option Bool:=match c with
|.lst ds=>if cI x=true/\ds.all cI=true then some (ds.any fun y=>eqs y x)else none
|.tup ds=>if cI x=true/\ds.all cI=true then some (ds.any fun y=>eqs y x)else none
|.dic kvs=>(dG x).map (cO kvs)
|.str y=>match x with
 |.str z=>some (!(Nn y z 0 y.length 1).isEmpty)
 |_=>none
|_=>none
def hZ(x c:D):Option D:=(inB x c).map .bl
def dD(x c:D):Option D:=(inB x c).map fun b=>.bl (! b)
theorem yG{K:W.Frag}{G:GH}{k:au}{ps:List (au×V)}{kvs:List (au×D)}(h:du K G ps kvs)(d:D)(e:bc kvs k=some d):∃v,bX ps k=some v/\RG K G v d:=by induction h with
|nil=>cases e
|@cons p q ps kvs r t ih=>
  obtain⟨k1,v1⟩:=p;obtain⟨k2,d2⟩:=q;obtain⟨e1,r1⟩:=r;have e1':k1=k2:=e1;subst e1';by_cases hk:k1=k
  .subst hk;have:d2=d:=by simpa[bc,K_]using e
   subst this;exact⟨v1,oZ rfl,r1⟩
  .have e':bc kvs k=some d:=by simpa[bc,K_,hk]using e
   obtain⟨v,h1,h2⟩:=ih e';exact⟨v,by rw[mv hk];exact h1,h2⟩
theorem JG{K:W.Frag}{G:GH}{k:au}{ps:List (au×V)}{kvs:List (au×D)}(h:du K G ps kvs)(e:bc kvs k=none):bX ps k=none:=by induction h with
|nil=>rfl
|@cons p q ps kvs r t ih=>
  obtain⟨k1,v1⟩:=p;obtain⟨k2,d2⟩:=q;obtain⟨e1,r1⟩:=r;have e1':k1=k2:=e1;subst e1';by_cases hk:k1=k
  .subst hk;simp[bc,K_]at e
  .have e':bc kvs k=none:=by simpa[bc,K_,hk]using e
   rw[mv hk];exact ih e'
theorem E4(kvs:List (au×D))(k:au):cO kvs k=(bc kvs k).isSome:=by induction kvs with
|nil=>rfl
|cons p r ih=>
  by_cases e:p.1=k
  .simp[cO,bc,K_,e]
  .have h1:cO (p::r) k=cO r k:=by simp[cO,e]
   have h2:bc (p::r) k=bc r k:=by simp[bc,K_,e]
   rw[h1,h2,ih]
theorem qV{K:W.Frag}{G:GH}{H:Hp}{v:V}{d:D}{k:au}(gk:aI K G H)(h:RB K G H v d)(e:dG d=some k):v=kV k:=by cases d with
|int i=>cases e;exact h.int gk
|str x=>cases e;exact h.str gk
|_=>cases e
section
variable{X:Cx}{g:GE}{m mb:List Md}{e a b o c:Expr}{f fa fb fc:FE}{pos pos':Pos}
def j3(neg:Bool):R2:=fun y x H Q=>∃a o,x=.ref a/\dj H a y o/\Q (.bl (if neg then ! o.isSome else o.isSome)) H
theorem E3(hu:X.A.units+1<NN):aR X (MC .In) (j3 false):=by intro pz s σ H y x u v Q I ry rx h;obtain⟨a,oo,rfl,hg,q⟩:=h;cases rx;exact wG hu I hg ry fun s' I'=>⟨.bl _,H,I',rfl,q⟩
theorem Ge(hu:X.A.units+1<NN):aR X (MC .NotIn) (j3 true):=by intro pz s σ H y x u v Q I ry rx h;obtain⟨a,oo,rfl,hg,q⟩:=h;cases rx;exact GT hu I hg ry fun s' I'=>⟨.bl _,H,I',rfl,q⟩
def fP(K:W.Frag)(neg:Bool):R2:=fun x y H Q=>vX K neg x y H Q\/j3 neg x y H Q\/∃i j,x=.str i/\y=.str j/\Q (.bl (if neg then !(!(Nn j i 0 j.length 1).isEmpty)else !(Nn j i 0 j.length 1).isEmpty)) H
theorem E2(hu:X.A.units+1<NN):aR X (MC .In) (fP X.K false):=aR.or Kb (aR.or (E3 hu) Kc)
theorem Gd(hu:X.A.units+1<NN):aR X (MC .NotIn) (fP X.K true):=aR.or K5 (aR.or (Ge hu) K6)
theorem zM{K:W.Frag}(neg:Bool):cH K (fP K neg) (fun x c=>(inB x c).map fun b=>.bl (if neg then ! b else b)):=by
 intro G H v1 v2 d1 d2 d Q gk r1 r2 e q;have seq:∀{xs:List V}{ds:List D}{p:Addr},bx K G xs ds->v2=.ref p->(aU K H p xs\/bI K H p xs)->cI d1=true->ds.all cI=true->d=.bl (if neg then !(ds.any fun y=>eqs y d1)else ds.any fun y=>eqs y d1)->fP K neg v1 v2 H Q:=fun{xs ds p} rs e2 hs hf hfs ed=>by
  obtain⟨e1,f1⟩:=RB.flat r1 gk hf;obtain⟨e3,f3⟩:=wX rs gk hfs;refine .inl ⟨p,xs,e2,hs,f1,f3,q _ G H (Grow.refl gk) ?_⟩;have:qh v1 xs=ds.any fun y=>eqs y d1:=by unfold qh;rw[e3,Qo,e1];rfl
  rw[this,ed];exact .scl (.bl _)
 cases d2 with
|lst ds=>
  by_cases hc:cI d1=true/\ds.all cI=true
  .simp only[inB,if_pos hc,O2]at e;obtain⟨p,xs,e2,hs,rs⟩:=r2.lst gk;exact seq rs e2 (.inl hs) hc.1 hc.2 (C_ e).symm
  .simp only[inB,if_neg hc,RP]at e;cases e
|tup ds=>
  by_cases hc:cI d1=true/\ds.all cI=true
  .simp only[inB,if_pos hc,O2]at e;obtain⟨p,xs,e2,hs,rs⟩:=r2.tup gk;exact seq rs e2 (.inr hs) hc.1 hc.2 (C_ e).symm
  .simp only[inB,if_neg hc,RP]at e;cases e
|dic kvs=>simp only[inB]at e;cases ek:dG d1 with
 |none=>rw[ek]at e;cases e
 |some k=>
   rw[ek]at e;cases e;obtain⟨p,ps,rfl,hs,rs⟩:=r2.dic gk;refine .inr (.inl ⟨p,bX ps k,rfl,by rw[qV gk r1 ek];exact .inl ⟨ps,k,hs,rfl,rfl⟩,q _ G H (Grow.refl gk) ?_⟩);have:(bX ps k).isSome=cO kvs k:=by rw[E4];cases eg:bc kvs k with
   |none=>rw[JG rs eg];rfl
   |some d=>obtain⟨v,h1,_⟩:=yG rs d eg;rw[h1];rfl
   rw[this];exact .scl (.bl _)
|str y=>cases d1 with
 |str z=>cases e;exact .inr (.inr ⟨z,y,r1.str gk,r2.str gk,q _ G H (Grow.refl gk) (.scl (.bl _))⟩)
 |_=>cases e
|_=>cases e
theorem C9{K:W.Frag}:cH K (fP K false) hZ:=by
 have h:=zM (K:=K) false;have e:(fun x c=>(inB x c).map fun b=>D.bl (if false=true then ! b else b))=hZ:=by funext x c;unfold hZ;cases inB x c <;> rfl
 rw[e]at h;exact h
theorem EV{K:W.Frag}:cH K (fP K true) dD:=by
 have h:=zM (K:=K) true;have e:(fun x c=>(inB x c).map fun b=>D.bl (if true=true then ! b else b))=dD:=by funext x c;unfold dD;cases inB x c <;> rfl
 rw[e]at h;exact h
theorem nu(hu:X.A.units+1<NN)(ha:SB X g m a fa)(hb:SB X g m b fb)(hm:NJ .In b=false:=by rfl):SQ X g m (.Compare a [.In] [b] pos) (aP (f2 fa fb hZ)):=iU (E2 hu) C9 ha hb hm
theorem yx(hu:X.A.units+1<NN)(ha:SB X g m a fa)(hb:SB X g m b fb)(hm:NJ .NotIn b=false:=by rfl):SQ X g m (.Compare a [.NotIn] [b] pos) (aP (f2 fa fb dD)):=iU (Gd hu) EV ha hb hm
def kj:D->D->Option D
|.non,.non=>some (.bl true)
|_,.non=>some (.bl false)
|_,_=>none
def eY:D->D->Option D
|.non,.non=>some (.bl false)
|_,.non=>some (.bl true)
|_,_=>none
theorem RB.isnon{K:W.Frag}{G:GH}{H:Hp}{v:V}{d:D}(gk:aI K G H)(h:RB K G H v d):(v=.non↔d=.non):=by
 constructor
 .intro e;subst e;rcases h with h|⟨a,e,_⟩
  .cases h with
  |scl s=>cases s;rfl
  .cases e
 .intro e;subst e;exact h.non gk
theorem Db{K:W.Frag}:cH K (fun x y H Q=>y=.non/\Q (.bl (decide (x=.non))) H) kj:=by intro G H v1 v2 d1 d2 d Q gk r1 r2 e q;have hn:=r1.isnon gk;cases d2 with
|non=>refine⟨r2.non gk,q _ G H (Grow.refl gk) ?_⟩;cases d1 with
 |non=>cases e;rw[decide_eq_true (hn.mpr rfl)];exact .scl (.bl _)
 |_=>cases e;rw[decide_eq_false (fun z=>by have:=hn.mp z;cases this)];exact .scl (.bl _)
|_=>cases d1 <;> cases e
theorem E8{K:W.Frag}:cH K (fun x y H Q=>y=.non/\Q (.bl (! decide (x=.non))) H) eY:=by intro G H v1 v2 d1 d2 d Q gk r1 r2 e q;have hn:=r1.isnon gk;cases d2 with
|non=>refine⟨r2.non gk,q _ G H (Grow.refl gk) ?_⟩;cases d1 with
 |non=>cases e;rw[decide_eq_true (hn.mpr rfl)];exact .scl (.bl _)
 |_=>cases e;rw[decide_eq_false (fun z=>by have:=hn.mp z;cases this)];exact .scl (.bl _)
|_=>cases d1 <;> cases e
theorem nq(ha:SB X g m a fa)(hb:SB X g m b fb):SQ X g m (.Compare a [.Is] [b] pos) (aP (f2 fa fb kj)):=iU Ei Db ha hb (jb _)
theorem Ef(ha:SB X g m a fa)(hb:SB X g m b fb):SQ X g m (.Compare a [.IsNot] [b] pos) (aP (f2 fa fb eY)):=iU Gf E8 ha hb (jb _)
end
end DL
section
namespace DL
open PySem PySem.Spec PyProof.Rows L2
section
variable{X:Cx}{g:GE}{m mb:List Md}{e a b o c:Expr}{f fa fb fc:FE}{pos pos' p1 p2:Pos}{ro:Bool}{x:Str}
def nk:R2:=fun x y H Q=>∃a v,x=.ref a/\dj H a y (some v)/\Q v H
theorem Fb(hu:X.A.units+1<NN):g0 X nk:=by intro value slice pz s σ H x y v u Q I rx ry h hs;obtain⟨a,w,rfl,hg,q⟩:=h;cases rx;exact tail_any (KP I hg) PySem.F.slot_dict_getitem.lookup (JE hu I hg ry fun w' s' I' rw'=>⟨w,H,I',rw',q⟩) hs
def bb:D->D->Option D
|.dic kvs,k=>(dG k).bind (bc kvs)
|c,k=>ixD c k
theorem Fa{K:W.Frag}:cH K (fun x y H Q=>nk x y H Q\/vW K x y H Q) bb:=by intro G H v1 v2 d1 d2 d Q gk r1 r2 e q;cases d1 with
|dic kvs=>obtain⟨a,ps,rfl,hs,rs⟩:=r1.dic gk;have e':(dG d2).bind (bc kvs)=some d:=e;cases ek:dG d2 with
 |none=>rw[ek]at e';cases e'
 |some k=>rw[ek]at e';obtain⟨v,h1,h2⟩:=yG rs d e';refine .inl ⟨a,v,rfl,?_,q v G H (Grow.refl gk) h2⟩;rw[qV gk r2 ek,<-h1];exact .inl ⟨ps,k,hs,rfl,rfl⟩
|lst ds=>exact .inr (qF G H v1 v2 _ d2 d Q gk r1 r2 e q)
|tup ds=>exact .inr (qF G H v1 v2 _ d2 d Q gk r1 r2 e q)
|str ds=>exact .inr (qF G H v1 v2 _ d2 d Q gk r1 r2 e q)
|_=>cases e
theorem gp(hu:X.A.units+1<NN)(ha:SB X g m a fa)(hb:SB X g m b fb)(hs:rL b:=by intro _ _;rfl):SE X g m (.Subscript a b pos) (f2 fa fb bb):=qJ Fa (D9 (g0.or (Fb hu) Fc) ha hb hs)
theorem jH:SO X g m (.Dict [] [] pos) fun _=>.ok (.dic []):=PE.imp IK fun σ H Q ⟨r,G,si,q⟩ p hp=>q p G _ (Grow.new si.gok hp _) hp ⟨si.gok.isN hp,.dic bT .nil⟩
def cz(kvs:List (au×D))(k:au)(d:D):List (au×D):=if (kvs.any fun kv=>decide (kv.1=k))=true then kvs.map fun kv=>if kv.1=k then(kv.1,d)else kv else kvs++[(k,d)]
theorem Ia{K:W.Frag}{G:GH}{k:au}{ps:List (au×V)}{kvs:List (au×D)}(h:du K G ps kvs):(ps.any fun kv=>decide (kv.1=k))=kvs.any fun kv=>decide (kv.1=k):=by induction h with
|nil=>rfl
|cons r t ih=>rw[N7,N7,ih,r.1]
theorem xJ{K:W.Frag}{G:GH}{ps:List (au×V)}{kvs:List (au×D)}{k:au}{v:V}{d:D}(r:du K G ps kvs)(h:RG K G v d):du K G (bF ps k v) (cz kvs k d):=by
 unfold bF cz;rw[Ia r];by_cases hc:(kvs.any fun kv=>decide (kv.1=k))=true
 .rw[if_pos hc,if_pos hc];clear hc
  induction r with
 |nil=>exact .nil
 |@cons p q ps kvs r t ih=>
   refine .cons ?_ ih;obtain⟨p1,p2⟩:=p;obtain⟨q1,q2⟩:=q;have e:p1=q1:=r.1;subst e;by_cases hk:p1=k
   .simp only[hk,if_true,true_and];exact h
   .simp only[hk,if_false,true_and];exact r.2
 .rw[if_neg hc,if_neg hc];exact Paired.snoc r ⟨rfl,h⟩
def dA:D->D->D->Option D
|.lst ds,.int k,v=>(fV ds.length k).map fun j=>.lst (ds.set j v)
|.dic kvs,k,v=>(dG k).bind fun k=>if kvs.length<sizeLine then some (.dic (cz kvs k v))else none
|_,_,_=>none
def yB:V->V->V->Hp->(Hp->Prop)->Prop:=fun o i v H Q=>∃p H',o=.ref p/\e8 H p i v H'/\Q H'
theorem Hd(hu:X.A.units+1<NN):d5 X yB:=by intro pz s σ H o i v ov iv u Q I ro ri rv h;obtain⟨p,H',rfl,hp,q⟩:=h;cases ro;exact JF hu I hp ri rv fun s' I'=>⟨H',I',q⟩
theorem d5.or{t t':iM}(h:d5 X t)(h':d5 X t'):d5 X (fun o i v H Q=>t o i v H Q\/t' o i v H Q):=by
 intro pz s σ H o i v ov iv u Q I ro ri rv q;rcases q with q|q
 .exact h pz s σ H o i v ov iv u Q I ro ri rv q
 .exact h' pz s σ H o i v ov iv u Q I ro ri rv q
theorem FY{K:W.Frag}{G:GH}{H:Hp}{a:Addr}{d k v d':D}{kv vv:V}{Q:Hp->Prop}(gk:aI K G H)(ow:Own K G H a d)(rk:RB K G H kv k)(rv:RG K G vv v)(e:dA d k v=some d')(q:∀o',OwnO K G (upd H a o') a d'->Q (upd H a o')):yC (.ref a) kv vv H Q\/yB (.ref a) kv vv H Q:=by cases ow.ob with
|@lst xs ds r s=>cases k with
 |int k=>have e':(fV ds.length k).map (fun j=>D.lst (ds.set j v))=some d':=e;cases ej:fV ds.length k with
  |none=>rw[ej]at e';cases e'
  |some j=>rw[ej]at e';cases e';exact .inl ⟨a,xs,k,j,rfl,rk.int gk,r,by rw[Paired.length s];exact ej,q _ (.lst bT (Paired.st rv j s))⟩
 |_=>cases e
|@dic ps kvs r s=>have e':(dG k).bind (fun k=>if kvs.length<sizeLine then some (D.dic (cz kvs k v))else none)=some d':=e;cases ek:dG k with
 |none=>rw[ek]at e';cases e'
 |some k'=>
   rw[ek]at e';have e2:(if kvs.length<sizeLine then some (D.dic (cz kvs k' v))else none)=some d':=e';by_cases hl:kvs.length<sizeLine
   .rw[if_pos hl]at e2;cases e2;have:=Paired.length s;refine .inr ⟨a,_,rfl,?_,q _ (.dic bT (xJ s rv))⟩;rw[qV gk rk ek];exact e8.k r (by omega)
   .rw[if_neg hl]at e2;cases e2
def putF(m:List Md)(i:Nat)(fk fv:FE):FS:=fun r=>onE m r (fv r) fun v=>match r[i]? with
|some (some d)=>onE m r (fk r) fun k=>(match dA d k v with
 |some d'=>.nx (r.set i (some d'))
 |none=>.stuck)
|_=>.stuck
theorem jE(i:Nat)(hu:X.A.units+1<NN)(hm:m[i]? = some .ow)(hN:X.N[i]? = some x)(hv:fD X.env.scope x)(hk:SB X g m b fb)(he:SE X g m e f)(hd:(x==("__debug__" : Str))=false:=by decide)(hcd:(x==("__classdict__" : Str))=false:=by decide)(ha:∀v,Pe (.Subscript (.Name x p1) b p2) X.env v=(do
   let ov <-Pv [v] (eval (.Name x p1) X.env);let iv <-Pv [v,ov] (eval b X.env)
   Tc p2
   Pv [v,ov,iv] (Tb ov iv v)
   release [v,ov,iv] []):=by intro _;rfl)(hs:swapsWithSole [.Subscript (.Name x p1) b p2] e pos.line X.env=pure false:=by rfl)(hw:swappedStores [.Subscript (.Name x p1) b p2] e X.env=pure none:=by rfl)(h1:(Nl [.Subscript (.Name x p1) b p2] X.env).map (·.2)=[Pe (.Subscript (.Name x p1) b p2) X.env]:=by rfl):SS X g ro mb m (.Assign [.Subscript (.Name x p1) b p2] e pos) (putF m i fb f) m:=by refine⟨rfl,PS.imp (ED he (Ez (kO hN hv hd hcd) hk (d5.or Iu (Hd hu)) ha) hs hw h1) fun D0 σ H ⟨r,G,si,k⟩=>⟨r,G,si,?_⟩⟩;refine aW (fw si rfl k) fun v k1 vv G1 H1 w1 rv=>?_;cases er:r[i]? with
|none=>simp only[er]at k1;exact(show False from k1).elim
|some oo=>cases oo with
 |none=>simp only[er]at k1;exact(show False from k1).elim
 |some d=>simp only[er]at k1;obtain⟨a,h1,h2,h3⟩:=(si.grow w1).mut hm er;refine⟨_,h1,r,G1,si.grow w1,?_⟩;refine aW (fw (m:=m) (si.grow w1) rfl (bG.gle k1 w1.ge)) fun kk k2 kv G2 H2 w2 rk=>?_;cases es:dA d kk v with
  |none=>simp only[es]at k2;exact(show False from k2).elim
  |some d'=>simp only[es]at k2;obtain⟨a',h1',h2',h3'⟩:=((si.grow w1).grow w2).mut hm er;rw[h1]at h1';cases h1';exact FY w2.ok h2' rk (rv.mono w2.ge) es fun o' ob=>k2 σ G2 _ w2.ge (h3' o' d' ob)
end
mutual
def aO:D->PyData
|.non=>.none
|.bl b=>.bool b
|.int i=>.int i
|.str x=>.str x
|.tup ds=>.tuple (zcF ds)
|.lst ds=>.list (zcF ds)
|.dic _=>.none
|.obj _ _=>.none
def zcF:List D->List PyData
|[]=>[]
|d::ds=>aO d::zcF ds
end
def bv:Nat->D->Prop
|_,.non=>True
|_,.bl _=>True
|_,.int _=>True
|_,.str x=>PyData.strOk x=true
|0,.tup _=>False
|0,.lst _=>False
|k+1,.tup ds=>∀d∈ds,bv k d
|k+1,.lst ds=>∀d∈ds,bv k d
|_,.dic _=>False
|_,.obj _ _=>False
theorem rQ{k:Nat}{ds:List D}:bv (k+1) (.lst ds)↔∀d∈ds,bv k d:=by simp only[bv]
theorem ir{k:Nat}{ds:List D}:bv (k+1) (.tup ds)↔∀d∈ds,bv k d:=by simp only[bv]
def iK(a b:D):Bool:=OF (aO a) (aO b)
section
variable{X:Cx}{pz:List (Addr×Obj)}{σ:L2.St}{H:Hp}{s:g_}{G:GH}
theorem Bc{k:Nat}(ih:∀(d:D)(v:V)(u:b_),bv k d->RG X.K G v d->L2.am v u->∃as,Reads s.heap u (aO d) as)(ds:List D)(vs:List V)(us:List b_)(h:∀d∈ds,bv k d)(r:bx X.K G vs ds)(q:ai vs us):∃as,ReadsAll s.heap us (zcF ds) as:=by induction r generalizing us with
|nil=>cases q;exact⟨[],.nil⟩
|cons r t ih'=>cases q with
 |cons r' t'=>obtain⟨a1,h1⟩:=ih _ _ _ (h _ e_) r r';obtain⟨a2,h2⟩:=ih' _ (fun x hx=>h x (c_ _ hx)) t';exact⟨a1++a2,.cons h1 h2⟩
theorem oW(I:Inv X pz σ H s)(gk:aI X.K G H):∀(k:Nat)(d:D)(v:V)(u:b_),bv k d->RB X.K G H v d->L2.am v u->∃as,Reads s.heap u (aO d) as:=by
 intro k
 induction k with
|zero=>intro d v u hs r ru;cases d with
 |non=>rw[r.non gk]at ru;cases ru;exact⟨_,.none⟩
 |bl b=>rw[r.bl gk]at ru;cases ru;exact⟨_,.bool b⟩
 |int i=>rw[r.int gk]at ru;obtain⟨t,rfl⟩:=ru;exact⟨_,.int i t⟩
 |str x=>rw[r.str gk]at ru;obtain⟨t,rfl⟩:=ru;exact⟨_,.str x t⟩
 |tup _=>unfold bv at hs;exact hs.elim
 |lst _=>unfold bv at hs;exact hs.elim
 |dic _=>unfold bv at hs;exact hs.elim
 |obj _ _=>unfold bv at hs;exact hs.elim
|succ k ih=>intro d v u hs r ru;cases d with
 |non=>rw[r.non gk]at ru;cases ru;exact⟨_,.none⟩
 |bl b=>rw[r.bl gk]at ru;cases ru;exact⟨_,.bool b⟩
 |int i=>rw[r.int gk]at ru;obtain⟨t,rfl⟩:=ru;exact⟨_,.int i t⟩
 |str x=>rw[r.str gk]at ru;obtain⟨t,rfl⟩:=ru;exact⟨_,.str x t⟩
 |tup ds=>obtain⟨a,xs,rfl,sq,rs⟩:=r.tup gk;cases ru;obtain⟨its,rv,pl,_⟩:=I.tuple sq;obtain⟨o,ho,hc,n,hd⟩:=pl;obtain⟨as,h⟩:=Bc (k:=k) (fun d v u h1 h2 h3=>ih d v u h1 h2.rb h3) ds xs its (ir.mp hs) rs rv;refine⟨as,?_⟩;unfold aO;exact .tuple ho hc hd (by simpa using h)
 |lst ds=>obtain⟨a,xs,rfl,sq,rs⟩:=r.lst gk;cases ru;obtain⟨its,rv,pl,_⟩:=I.list sq;obtain⟨o,ho,hc,n,hd⟩:=pl.isList;obtain⟨as,h⟩:=Bc (k:=k) (fun d v u h1 h2 h3=>ih d v u h1 h2.rb h3) ds xs its (rQ.mp hs) rs rv;refine⟨a::as,?_⟩;unfold aO;exact .list ho hc hd (by simpa using h)
 |dic _=>unfold bv at hs;exact hs.elim
 |obj _ _=>unfold bv at hs;exact hs.elim
theorem rP{k:Nat}(ih:∀d,bv k d->MW (aO d)=true/\Nf (aO d)<=k):∀ds:List D,(∀d∈ds,bv k d)->Pz (zcF ds)=true/\Qu (zcF ds)<=k
|[],_=>by unfold zcF Pz Qu;exact⟨rfl,MD _⟩
|d::ds,h=>by obtain⟨a1,a2⟩:=ih d (h d e_);obtain⟨b1,b2⟩:=rP ih ds fun x hx=>h x (c_ _ hx);unfold zcF Pz Qu;rw[a1,b1];exact⟨rfl,Nat.max_le.mpr ⟨a2,b2⟩⟩
theorem FO:∀(k:Nat)(d:D),bv k d->MW (aO d)=true/\Nf (aO d)<=k:=by
 intro k
 induction k with
|zero=>intro d hs;cases d with
 |non=>unfold aO MW Nf;exact⟨rfl,MD _⟩
 |bl b=>unfold aO MW Nf;exact⟨rfl,MD _⟩
 |int i=>unfold aO MW Nf;exact⟨rfl,MD _⟩
 |str x=>unfold bv at hs;unfold aO MW Nf;exact⟨hs,MD _⟩
 |tup _=>unfold bv at hs;exact hs.elim
 |lst _=>unfold bv at hs;exact hs.elim
 |dic _=>unfold bv at hs;exact hs.elim
 |obj _ _=>unfold bv at hs;exact hs.elim
|succ k ih=>intro d hs;cases d with
 |non=>unfold aO MW Nf;exact⟨rfl,MD _⟩
 |bl b=>unfold aO MW Nf;exact⟨rfl,MD _⟩
 |int i=>unfold aO MW Nf;exact⟨rfl,MD _⟩
 |str x=>unfold bv at hs;unfold aO MW Nf;exact⟨hs,MD _⟩
 |tup ds=>obtain⟨b1,b2⟩:=rP ih ds (ir.mp hs);unfold aO MW Nf;exact⟨b1,Rx b2⟩
 |lst ds=>obtain⟨b1,b2⟩:=rP ih ds (rQ.mp hs);unfold aO MW Nf;exact⟨b1,Rx b2⟩
 |dic _=>unfold bv at hs;exact hs.elim
 |obj _ _=>unfold bv at hs;exact hs.elim
theorem ph{d:D}(h:bv 60 d):Th (aO d)=true:=by obtain⟨a,b⟩:=FO 60 d h;unfold Th;rw[a,decide_eq_true (MI b (by decide))];rfl
end
section
variable{X:Cx}{g:GE}{m mb:List Md}{e a b o c:Expr}{f fa fb fc:FE}{pos pos':Pos}
def kG(a b:D):Bool:=cI a&&cI b&&iE (dz a) (dz b)
open Classical in
def ee(a b:D):Option Bool:=if kG a b=true then some (eqs a b)else if bv 60 a/\bv 60 b then some (iK a b)else none
def eqD(a b:D):Option D:=(ee a b).map .bl
def neD(a b:D):Option D:=(ee a b).map fun c=>.bl (! c)
theorem oU{a b:D}(h:kG a b=false)(h1:bv 60 a)(h2:bv 60 b):ee a b=some (iK a b):=by unfold ee;rw[if_neg (by rw[h];exact i_),if_pos ⟨h1,h2⟩]
theorem mh{a b:D}(h:kG a b=true):ee a b=some (eqs a b):=by unfold ee;rw[if_pos h]
@[simp] theorem eqB_int(a b:Int):ee (.int a) (.int b)=some (a==b):=mh rfl
@[simp] theorem eqB_str(a b:Str):ee (.str a) (.str b)=some (a==b):=mh rfl
@[simp] theorem eqB_non_int(b:Int):ee .non (.int b)=some false:=mh rfl
@[simp] theorem eqB_int_non(b:Int):ee (.int b) .non=some false:=mh rfl
@[simp] theorem eqB_non_non:ee .non .non=some true:=mh rfl
theorem AO{a b:D}(h:iE (dz a) (dz b)=true)(fa:cI a=true)(fb:cI b=true):decide (dz a=dz b)=eqs a b:=by
 cases a <;> cases b <;> first
  |exact absurd (show false=true from fa) i_
  |exact absurd (show false=true from fb) i_
  |exact absurd (show false=true from h) i_
  |exact rn
  |exact qX
  |exact rq
  |rfl
  |simp[dz,eqs,dZ]
def oM(K:W.Frag)(neg:Bool):R2:=fun x y H Q=>∃(G:GH)(d1 d2:D),aI K G H/\RB K G H x d1/\RB K G H y d2/\bv 60 d1/\bv 60 d2/\Q (.bl (if neg then ! iK d1 d2 else iK d1 d2)) H
theorem Bb(hu:X.A.units+64<NN):aR X (MC .Eq) (oM X.K false):=by intro pz s σ H x y v u Q I rx ry h;obtain⟨G,d1,d2,gk,r1,r2,s1,s2,q⟩:=h;obtain⟨as,h1⟩:=oW I gk 60 d1 x v s1 r1 rx;obtain⟨bs,h2⟩:=oW I gk 60 d2 y u s2 r2 ry;exact SeqAt.compareEq_shaped h1 h2 (ph s1) (ph s2) hu ⟨.bl _,H,I,rfl,q⟩
theorem Kd(hu:X.A.units+64<NN):aR X (MC .NotEq) (oM X.K true):=by intro pz s σ H x y v u Q I rx ry h;obtain⟨G,d1,d2,gk,r1,r2,s1,s2,q⟩:=h;obtain⟨as,h1⟩:=oW I gk 60 d1 x v s1 r1 rx;obtain⟨bs,h2⟩:=oW I gk 60 d2 y u s2 r2 ry;exact SeqAt.compareNe_shaped h1 h2 (ph s1) (ph s2) hu ⟨.bl _,H,I,rfl,q⟩
theorem eq_cases{a b:D}{c:Bool}(h:ee a b=some c):(kG a b=true/\c=eqs a b)\/(bv 60 a/\bv 60 b/\c=iK a b):=by
 unfold ee at h;split at h
 .rename_i hs;cases h;exact .inl ⟨hs,rfl⟩
 .split at h
  .rename_i hs;cases h;exact .inr ⟨hs.1,hs.2,rfl⟩
  .cases h
theorem wS{K:W.Frag}:cH K (fun x y H Q=>CQ x y H Q\/oM K false x y H Q) eqD:=by intro G H v1 v2 d1 d2 d Q gk r1 r2 e q;unfold eqD at e;cases ec:ee d1 d2 with
|none=>rw[ec]at e;cases e
|some c=>
  rw[ec]at e;cases e;rcases eq_cases ec with⟨hs,rfl⟩|⟨s1,s2,rfl⟩
  .unfold kG at hs;rw[I_,I_]at hs;obtain⟨e1,_⟩:=RB.flat r1 gk hs.1.1;obtain⟨e2,_⟩:=RB.flat r2 gk hs.1.2;refine .inl ⟨by rw[e1,e2];exact hs.2,?_⟩;rw[e1,e2,AO hs.2 hs.1.1 hs.1.2];exact q _ G H (Grow.refl gk) (.scl (.bl _))
  .exact .inr ⟨G,d1,d2,gk,r1,r2,s1,s2,q _ G H (Grow.refl gk) (.scl (.bl _))⟩
theorem Dg{K:W.Frag}:cH K (fun x y H Q=>CP x y H Q\/oM K true x y H Q) neD:=by intro G H v1 v2 d1 d2 d Q gk r1 r2 e q;unfold neD at e;cases ec:ee d1 d2 with
|none=>rw[ec]at e;cases e
|some c=>
  rw[ec]at e;cases e;rcases eq_cases ec with⟨hs,rfl⟩|⟨s1,s2,rfl⟩
  .unfold kG at hs;rw[I_,I_]at hs;obtain⟨e1,_⟩:=RB.flat r1 gk hs.1.1;obtain⟨e2,_⟩:=RB.flat r2 gk hs.1.2;refine .inl ⟨by rw[e1,e2];exact hs.2,?_⟩;rw[e1,e2,AO hs.2 hs.1.1 hs.1.2];exact q _ G H (Grow.refl gk) (.scl (.bl _))
  .exact .inr ⟨G,d1,d2,gk,r1,r2,s1,s2,q _ G H (Grow.refl gk) (.scl (.bl _))⟩
theorem gI(hu:X.A.units+64<NN)(ha:SB X g m a fa)(hb:SB X g m b fb):SE X g m (.Compare a [.Eq] [b] pos) (f2 fa fb eqD):=xU (aR.or xM (Bb hu)) wS ha hb (jb _)
theorem dS(hu:X.A.units+64<NN)(ha:SB X g m a fa)(hb:SB X g m b fb):SQ X g m (.Compare a [.Eq] [b] pos) (aP (f2 fa fb eqD)):=iU (aR.or xM (Bb hu)) wS ha hb (jb _)
theorem gK(hu:X.A.units+64<NN)(ha:SB X g m a fa)(hb:SB X g m b fb):SQ X g m (.Compare a [.NotEq] [b] pos) (aP (f2 fa fb neD)):=iU (aR.or Dm (Kd hu)) Dg ha hb (jb _)
def lQ(fa fb fc:FE)(k k':D->D->Option D):FE:=fun r=>(fa r).bind fun x=>(fb r).bind fun y=>(bK (k x y)).bind fun z=>(bK (gU z)).bind fun c=>if c=true then(fc r).bind fun w=>bK (k' y w)else .ok (.bl false)
def qp(K:W.Frag):R2:=fun x y H Q=>∃l b xs zs,x=.ref l/\y=.ref b/\aU K H l xs/\aU K H b zs/\xs.length+zs.length<=sizeLine/\∀p,H p=none->Q (.ref p) (upd H p (.lst (xs++zs)))
theorem zA:aR X (NQ .Add) (qp X.K):=by
 intro pz s σ H x y v u Q I rx ry h;obtain⟨l,b,xs,zs,rfl,rfl,hH,hB,hz,q⟩:=h;cases rx;cases ry;obtain⟨its,r,pl,_⟩:=I.list hH;obtain⟨its2,r2,pl2,_⟩:=I.list hB;have l1:=r.length;have l2:=r2.length;obtain⟨⟨cls,dd,data,sl⟩,ho,hc,n,hd⟩:=pl.isList;obtain⟨⟨cls2,dd2,data2,sl2⟩,ho2,hc2,n2,hd2⟩:=pl2.isList;simp only at hc hd hc2 hd2;subst hc hd hc2 hd2;have e:its.toArray++its2.toArray=(its++its2).toArray:=by simp
 refine Qd ⟨_,ho,rfl⟩ ⟨_,ho2,rfl⟩ noFill_list_add seq_list_add PySem.F.slot_list_add PySem.F.entry_list_add (PySem.F.args_list_add_2 _ _) (list_addW _ _ its.toArray its2.toArray n n2 dd dd2 sl sl2 (by simp;omega)) ⟨ho,ho2,?_⟩;rw[e];exact⟨.ref _,_,I.lnew (t':=s.toks) (r.append r2) (by rw[MO];omega),rfl,q _ I.fresh⟩
def addA:D->D->Option D
|.int a,.int b=>some (.int (a+b))
|.str a,.str b=>if a.length+b.length<=sizeLine then some (.str (a++b))else none
|.lst a,.lst b=>if a.length+b.length<=sizeLine then some (.lst (a++b))else none
|.tup (x::a),.tup b=>if (x::a).length+b.length<=sizeLine then some (.tup (x::a++b))else none
|_,_=>none
theorem zq{K:W.Frag}:cH K (fun x y H Q=>(∃i j,x=.int i/\y=.int j/\Q (.int (i+j)) H)\/(∃i j,x=.str i/\y=.str j/\i.length+j.length<=sizeLine/\Q (.str (i++j)) H)\/qp K x y H Q\/qq K x y H Q) addA:=by
 intro G H v1 v2 d1 d2 d Q gk r1 r2 e q;unfold addA at e;split at e
 .cases e;exact .inl ⟨_,_,r1.int gk,r2.int gk,q _ G H (Grow.refl gk) (.scl (.int _))⟩
 .split at e
  .rename_i hl;cases e;exact .inr (.inl ⟨_,_,r1.str gk,r2.str gk,hl,q _ G H (Grow.refl gk) (.scl (.str _))⟩)
  .cases e
 .split at e
  .rename_i hl;cases e;obtain⟨a,xs,rfl,s1,t1⟩:=r1.lst gk;obtain⟨b,ys,rfl,s2,t2⟩:=r2.lst gk;have l1:=Paired.length t1;have l2:=Paired.length t2;exact .inr (.inr (.inl ⟨a,b,xs,ys,rfl,rfl,s1,s2,by omega,fun p hp=>q _ _ _ (Grow.newF gk hp (.lst (.inl bT) (Paired.app t1 t2))) (.ref dc)⟩))
  .cases e
 .split at e
  .rename_i x0 a0 b0 hl;cases e;rcases r1 with r1|⟨a',_,oo⟩
   .obtain⟨a,xs,rfl,s1,t1⟩:=r1.tup gk;obtain⟨b,ys,rfl,s2,t2⟩:=r2.tup gk;have l1:=Paired.length t1;have l2:=Paired.length t2;refine .inr (.inr (.inr ⟨a,b,xs,ys,rfl,rfl,s1,s2,?_,by omega,fun hy=>?_,fun _ p hp=>q _ _ _ (Grow.newF gk hp (.tup (.inl bT) (Paired.app t1 t2))) (.ref dc)⟩))
    .rintro rfl
     cases t1
    .subst hy;cases t2;refine q _ G H (Grow.refl gk) ?_;rw[ML];exact r1
   .cases oo.ob
  .cases e
 .cases e
theorem hJ(ha:SB X g m a fa)(hb:SB X g m b fb):SE X g m (.BinOp a .Add b pos) (f2 fa fb addA):=i0 (aR.or yS (aR.or BO (aR.or zA zB))) zq ha hb
end
end DL
end
namespace DL
open PySem PySem.Spec PyProof.Rows L2
structure DefAt(K:W.Frag)(mg:Str->Option b_)(x:Str)(st:Stmt):Prop where
 ex:∃f fd,mg x=some (.ref f)/\Fun K x x st f fd
structure Callee(P:D_)(w:Mu)(K:W.Frag)(mg:Str->Option b_)(base:Heap)(x:Str)(ps:List Str)(ds:List b_)(k:Nat)(ro:Bool)(ms:List Md)(F:List D->Res D):Prop where
 ex:∃f fd,mg x=some (.ref f)/\W.keepIn K (.ref f)=true/\fq K fd ps ds/\FnOk P w K mg base bR k f fd ps (hV K ro ms F)
section
variable{P:D_}{w:Mu}{K:W.Frag}{mg:Str->Option b_}{base:Heap}
theorem ER{x:Str}{st:Stmt}{N ps:List Str}{k:Nat}{ro:Bool}{ms:List Md}{fs:FS}{m':List Md}(A:DefAt K mg x st)(S:FnScope N ps (ar st))(hms:ms.length=ps.length)(hb:∀(kV doc pm:b_)(an:Option Addr)(cdv ct:b_)(us:List b_),us.length=ps.length->Pg (W.fnOf x x (fA st) (c8 st) (ar st) .none kV doc pm an cdv ct) ⟨us,[]⟩=pure (ps.zip us))(hbody:∀(f:Addr)(cdv:b_)(A:Mw)(outer:List Env)(s:g_)(H:Hp)(g:GE)(E:XK),Room k (A.deeper (Ot x (ar st) s.heap.objs.size f cdv)) ->cZ (aQ bR P w K mg base N x (ar st) f cdv A outer s H E).nox g ro [] (gr N.length ms) (c8 st) fs m'):Callee P w K mg base x ps [] (k+1) ro ms fun ds=>aq ro (fs (aK N.length ds)):=by obtain⟨f,fd,h1,F⟩:=A.ex;exact⟨f,fd,h1,F.kp,F.binds hb,yH F S hms (hbody f)⟩
structure DefAtD(K:W.Frag)(mg:Str->Option b_)(x:Str)(st:Stmt)(dds:List b_):Prop where
 ex:∃(f T:Addr)(o:Obj)(n:Nat)(oc:b_)(od:Option Addr)(kV doc pm:b_)(an:Option Addr)(cdv ct:b_)(osl:Array (Option b_)),mg x=some (.ref f)/\K.lookup T=some o/\o.data=.seq dds.toArray n/\K.lookup f=some ⟨oc,od,.func (W.fnOf x x (fA st) (c8 st) (ar st) (.ref T) kV doc pm an cdv ct),osl⟩/\W.codeIn K cdv x=true/\W.keepIn K (.ref f)=true
theorem l8{x:Str}{st:Stmt}{N ps:List Str}{k:Nat}{ro:Bool}{ms:List Md}{fs:FS}{m':List Md}{dds ds:List b_}(A:DefAtD K mg x st dds)(S:FnScope N ps (ar st))(hms:ms.length=ps.length)(nn:Nat)(hn:nn+ds.length=ps.length)(hb:∀(T:Addr)(kV doc pm:b_)(an:Option Addr)(cdv ct:b_)(us:List b_),us.length=nn->∃kk:Option (Array b_)->Sem (List (Str×b_)),Pg (W.fnOf x x (fA st) (c8 st) (ar st) (.ref T) kV doc pm an cdv ct) ⟨us,[]⟩=S4 (.ref T) >>= kk/\kk (some dds.toArray)=pure (ps.zip (us++ds)))(hbody:∀(f:Addr)(cdv:b_)(A:Mw)(outer:List Env)(s:g_)(H:Hp)(g:GE)(E:XK),Room k (A.deeper (Ot x (ar st) s.heap.objs.size f cdv)) ->cZ (aQ bR P w K mg base N x (ar st) f cdv A outer s H E).nox g ro [] (gr N.length ms) (c8 st) fs m'):Callee P w K mg base x ps ds (k+1) ro ms fun zs=>aq ro (fs (aK N.length zs)):=by
 obtain⟨f,T,o,n,oc,od,kV,doc,pm,an,cdv,ct,osl,h1,hT,hd,lk,hcd,kp⟩:=A.ex;refine⟨f,W.fnOf x x (fA st) (c8 st) (ar st) (.ref T) kV doc pm an cdv ct,h1,kp,fun s us KX hl=>?_,?_⟩
 .obtain⟨kk,e1,e2⟩:=hb T kV doc pm an cdv ct us (by rw[MO]at hl;omega);exact BindsTo.of_defaults rfl (KX _ _ hT) hd e1 e2
 .have hpl:ps.length<=N.length:=by have:=congrArg Pw S.pre;rw[Nm]at this;omega
  refine qv lk hcd S (fun vs H Q E ⟨G,ds,gk,rs,q⟩=>rs.len.1.trans hms) fun A outer s H vs Q E hr ⟨G,ds,gk,rs,q⟩=>?_;exact⟨_,(hbody f cdv A outer s H ⟨G,H,fun _=>none⟩ E hr).2.nox,aK N.length ds,G,oX gk rs (by omega),As q⟩
end
section
variable{X:Cx}{g:GE}{m:List Md}{e:Expr}{es:List Expr}{fl:aj->Res (List D)}{k:Nat}{ps:List Str}{F:List D->Res D}{dvs:List V}{ds:List b_}{dds:List D}{x:Str}{p pos:Pos}{i:Nat}{ms ms':List Md}
theorem yX(c:Callee X.prog X.w X.K X.mg X.base x ps ds k false ms' F)(hr:Room k X.A)(ha:fX X g m (e::es) ms fl)(hms:ms'=ms++MF dds.length .sh:=by rfl)(hg:Gl X x:=by rfl)(hd:ai dvs ds:=by exact .nil)(hsc:Paired Scl dvs dds:=by exact .nil)(hdb:(x==("__debug__" : Str))=false:=by decide)(he:j_ (e::es) X.env=(false,eval e X.env)::j_ es X.env:=by rfl)(hpl:(backTo pos (j_ es X.env)).any (·.1)=false:=by rfl):SE X g m (.Call (.Name x p) (e::es) [] pos) (aJ fl dds F):=by subst hms;obtain⟨f,fd,h1,h2,h3,h4⟩:=c.ex;exact FK h4 hr hg h1 h2 h3 hd hsc ha hdb he hpl
theorem v_(i:Nat)(hm:m[i]? = some .sh:=by rfl)(hN:X.N[i]? = some x:=by rfl)(hv:fD X.env.scope x:=by first|exact Or.inl rfl|exact Or.inr (Or.inl rfl)|exact Or.inr (Or.inr rfl))(hd:(x==("__debug__" : Str))=false:=by decide)(hcd:(x==("__classdict__" : Str))=false:=by decide):SE X g m (.Name x p) fun r=>dI r i:=DS i hm hN hv hd hcd
theorem ae(i:Nat)(hm:i<m.length:=by decide)(hN:X.N[i]? = some x:=by rfl)(hv:fD X.env.scope x:=by first|exact Or.inl rfl|exact Or.inr (Or.inl rfl)|exact Or.inr (Or.inr rfl))(hd:(x==("__debug__" : Str))=false:=by decide)(hcd:(x==("__classdict__" : Str))=false:=by decide):SB X g m (.Name x p) fun r=>dI r i:=FN i hm hN hv hd hcd
end
def zC(osc:Oe)(ON:List Str)(sc:Oe)(N':List Str)(nl:Nat)(cap:List Nat):Bool:=decide (sc.kind=.function)&&sc.names.all (fun y=>decide (y.2≠.cell))&&sc.names.all (fun y=>decide (y.2≠.local) || decide (sc.names.lookup y.1=some .local)) &&
 sc.names.all (fun y=>decide (y.2≠.free) || (decide (osc.names.lookup y.1=some .cell) || decide (osc.names.lookup y.1=some .free)))&&decide (N'.length=nl+cap.length) &&
 (a_ cap.length).all fun j=>match N'[nl+j]?,ON[cap.getD j 0]? with
 |some x,some y=>decide (x=y)&&decide (sc.names.lookup x=some .free)
 |_,_=>false
theorem eJ{X:Cx}{osc:Oe}{ON:List Str}{sc:Oe}{N':List Str}{nl:Nat}{cap:List Nat}(h1:X.env.scope=osc)(h2:X.N=ON)(h:zC osc ON sc N' nl cap=true):CompSc X sc N' nl cap:=by subst h1 h2;unfold zC at h;simp only[I_,MP,decide_eq_true_eq,Bool.or_eq_true]at h;obtain⟨⟨⟨⟨⟨a1,a2⟩,a3⟩,a4⟩,a5⟩,a6⟩:=h;refine⟨a1,a2,fun y hy hl=>(a3 y hy).resolve_left fun z=>z hl,fun y hy hf=>(a4 y hy).resolve_left fun z=>z hf,a5,fun j hj=>?_⟩;have h6:=a6 j (k_.mpr hj);cases e1:N'[nl+j]? with
|none=>rw[e1]at h6;cases h6
|some x=>cases e2:X.N[cap.getD j 0]? with
 |none=>rw[e1,e2]at h6;cases h6
 |some y=>rw[e1,e2]at h6;simp only[I_,decide_eq_true_eq]at h6;exact⟨x,rfl,by rw[h6.1],h6.2⟩
section
variable{X:Cx}{g:GE}{m mb:List Md}{e a b c:Expr}{f fa fb fc:FE}{pos pos':Pos}
theorem JZ{R R':R2}{k k':D->D->Option D}(ho:cH X.K R k)(ho':cH X.K R' k'){σ:L2.St}{H:Hp}{Q:VK}(h:tE X g m (lQ fa fb fc k k') σ H Q):y8 R R' (tB X g m fa) (tB X g m fb) (tB X g m fc) σ H Q:=by obtain⟨r,G,si,q⟩:=h;refine j2 si q fun d1 d2 v1 v2 G2 H2 w r1 r2 q2=>?_;obtain⟨z,ez,q3⟩:=cb (aY q2);obtain⟨cc,ec,q4⟩:=cb (aY q3);refine ho G2 H2 v1 v2 d1 d2 z _ w.ok r1 r2 ez fun v G3 H3 w3 rv=>?_;cases z with
|bl b'=>cases ec;refine⟨_,rv.bl w3.ok,?_⟩;cases cc with
 |false=>rw[if_neg i_]at q4 ⊢;exact q4 _ G3 H3 (w.trans w3) (.scl (.bl _))
 |true=>rw[if_pos rfl]at q4 ⊢;refine⟨r,G3,(si.grow w).grow w3,d8 (aY q4) (w.trans w3) fun d3 q5 v3 G4 H4 w4 r3=>?_⟩;obtain⟨d,e,q6⟩:=cb q5;exact ho' G4 H4 v2 v3 d2 d3 d Q w4.ok ((r2.mono w3).mono w4) r3 e fun v G' H' w' z=>q6 v G' H' (((w.trans w3).trans w4).trans w') z
|_=>cases ec
theorem Iq{op op':S0}{R R':R2}{k k':D->D->Option D}(hr:aR X (MC op) R)(hr':aR X (MC op') R')(ho:cH X.K R k)(ho':cH X.K R' k')(ha:SB X g m a fa)(hb:SB X g m b fb)(hc:SB X g m c fc)(hm:lastMarks [op,op'] [b,c]=false:=by with_unfolding_all rfl):SE X g m (.Compare a [op,op'] [b,c] pos) (lQ fa fb fc k k'):=PE.imp (IJ hr hr' ha hb hc hm) fun σ H Q h=>JZ ho ho' h
theorem Dk{K:W.Frag}:cH K (hX fun i j=>V.bl (decide (i<j))) gR:=kU fun _ _=>.bl _
theorem Dj{K:W.Frag}:cH K (hX fun i j=>V.bl (decide (i<=j))) wA:=kU fun _ _=>.bl _
end
theorem bS{K:W.Frag}{h:Heap}{mg:Str->Option b_}{x:Str}{st:Stmt}(KX:K.In h)(G:h.Ns My mg){f:Addr}{oc:b_}{od an:Option Addr}{osl:Array (Option b_)}{kV doc pm cdv ct:b_}(a:W.nsIn K My x=some (some (.ref f)))(l:K.lookup f=some ⟨oc,od,.func (W.fnOf x x (fA st) (c8 st) (ar st) .none kV doc pm an cdv ct),osl⟩)(c:W.codeIn K cdv x=true)(k:W.keepIn K (.ref f)=true):DefAt K mg x st:=⟨f,_,W.mg_of KX G a,DG l c k⟩
theorem nU{K:W.Frag}{h:Heap}{mg:Str->Option b_}{x:Str}{st:Stmt}{dds:List b_}(KX:K.In h)(G:h.Ns My mg){f T:Addr}{oc tc:b_}{od an td:Option Addr}{osl tsl:Array (Option b_)}{n:Nat}{kV doc pm cdv ct:b_}(a:W.nsIn K My x=some (some (.ref f)))(l:K.lookup f=some ⟨oc,od,.func (W.fnOf x x (fA st) (c8 st) (ar st) (.ref T) kV doc pm an cdv ct),osl⟩)(t:K.lookup T=some ⟨tc,td,.seq dds.toArray n,tsl⟩)(c:W.codeIn K cdv x=true)(k:W.keepIn K (.ref f)=true):DefAtD K mg x st dds:=⟨f,T,_,n,oc,od,kV,doc,pm,an,cdv,ct,osl,W.mg_of KX G a,t,rfl,l,c,k⟩
theorem Dr{P:D_}{w:Mu}{K:W.Frag}{mg:Str->Option b_}{x p:Str}{st:Stmt}{k:Nat}{F:List D->Res D}{fa:Addr}(hfa:mg x=some (.ref fa))(A:DefAt K mg x st)(hb:∀(kV doc pm:b_)(an:Option Addr)(cdv ct:b_)(us:List b_),us.length=[p].length->Pg (W.fnOf x x (fA st) (c8 st) (ar st) .none kV doc pm an cdv ct) ⟨us,[]⟩=pure ([p].zip us))(C:∀(f:Addr)(fd:M5),Fun K x x st f fd->∀base:Heap,FnOk P w K mg base bR k f fd [p] (hV K false [.sh] F)):∃fd:M5,(∀(s:g_)(u:b_),QO s fd ⟨[u],[]⟩ [(p,u)])/\∀base:Heap,K.In base->base.Ns My mg->FnOk P w K mg base bR k fa fd [p] (hV K false [.sh] F):=by obtain⟨f,fd,h1,Fn⟩:=A.ex;rw[hfa]at h1;cases h1;refine⟨fd,fun s u=>?_,fun base _ _=>C fa fd Fn base⟩;obtain⟨oc,od,kV,doc,pm,an,cdv,ct,osl,rfl,lk,hcd⟩:=Fn.ex;exact .of_eq (hb kV doc pm an cdv ct [u] rfl)
theorem Do{l:W.OpenLaw}{k:Nat}{q:D_}{loose:List Str}{XP:(Str->Option b_)->Heap->Prop}{YP:Mu->Heap->Prop}{d:DefRec}{K:Params->W.Frag}{x:Str}{F:List D->Res D}(hn:l.most=some 63)(hdf:d.params.defaults=[])(hr:Room k Qk)(hY:∀(w:Mu)(h:Heap),YP w h->(K w.params).In h)(hF:∀ns:List Int,ns.length<=63->F [.lst (ns.map .int)]=.ok (.bl true))(C:∀(w:Mu)(mg:Str->Option b_)(fa:Addr)(h:Heap),(K w.params).In h->h.Ns My mg->mg d.name=some (.ref fa) ->∃fd:M5,(∀(s:g_)(u:b_),QO s fd ⟨[u],[]⟩ [(x,u)])/\∀base:Heap,(K w.params).In base->base.Ns My mg->FnOk l.prog w (K w.params) mg base bR k fa fd [x] (hV (K w.params) false [.sh] F)):W.WalkO q loose XP YP l.row.toRowW d [] (fun f vs=>R5 f vs):=by
 refine L2.iC (n:=63) (k:=k) (x:=x) (CX:=fun _=>bR) (sp:=fun w=>hV (K w.params) false [.sh] F) hn (by decide) hdf hr hY C (fun w H a ns hl hO hS=>?_) fun _ _ _ _ _ z=>z;have intsP:∀(l:List Int),Paired Scl (l.map V.int) (l.map D.int):=fun l=>by induction l with
 |nil=>exact .nil
 |cons i l ih=>exact .cons (.int i) ih
 rcases hS with hS|hS
 .refine⟨fun b=>if b=a then some (.lst (ns.map D.int))else none,[.lst (ns.map .int)],fun b d' hb=>?_,.sh (.ref (if_pos rfl)) .nil,?_⟩
  .by_cases e:b=a
   .subst e;have hb':some (D.lst (ns.map D.int))=some d':=(if_pos rfl).symm.trans hb;cases hb';exact .lst hS (Paired.mono (fun _ _ z=>.scl z) (intsP ns))
   .have hb':(none:Option D)=some d':=(if_neg e).symm.trans hb;cases hb'
  .rw[hF ns hl];intro v G' H' w' rv;exact rv.bl w'.ok
 .refine⟨fun _=>none,[.lst (ns.map .int)],fun b d' hb=>(by cases hb),.sh (.kc (.lst (.inr hS) (intsP ns))) .nil,?_⟩;rw[hF ns hl];intro v G' H' w' rv;exact rv.bl w'.ok
section
open AutoSeq1 (wpAny_loadPart')
section
variable{prog:D_}{w:Mu}{A:Mw}{E:b_->g_->Prop}{s:g_}
theorem LR{it t:Addr}{i:Nat}{items}{x:b_}{Q:b_->g_->Prop}(hit:s.heap.IsTupleIter it t i)(ht:s.heap.IsTuple t items)(hx:items[i]? = some x)(hQ:∀h',h'.IsTupleIter it t (i+1)->Pb it s.heap h'->Q x { s with heap:=h' }):z_ (E_ prog w) A (Nz (.ref it)) Q E s:=by
 obtain⟨o,ho,hc,hd⟩:=id hit;obtain⟨ol,hol,_,nl,hdl⟩:=ht;unfold Nz;refine f_ (NR (name:=F_ "__next__") hit.typeIs F.slot_tuple_iterator_next
  (Oo F.slot_tuple_iterator_next hit.typeIs F.entry_tuple_iterator_next ?_ (F.args_tuple_iterator_next_1 _)))
 show z_ _ _ (field (.ref it) 0 >>= _) _ _ s;refine f_ (M0 ho hd (x:=.ref t) rfl ?_);show z_ _ _ (if (Value.ref t==Value.none)=true then _ else _) _ _ s;rw[if_neg (show ¬ ((Value.ref t==Value.none)=true)from i_)];show z_ _ _ (field (.ref it) 1 >>= _) _ _ s;refine f_ (M0 ho hd (x:=.int i 0) rfl ?_);show z_ _ _ (S4 (.ref t) >>= _) _ _ s;refine f_ (wpAny_seqItems hol hdl ?_);simp only[NF,hx];refine f_ (NS ho hd (by simp) (r_ ⟨x,rfl,r_ (hQ _ ?_ (O9 ..))⟩));exact⟨_,M4 _ ho (Obj.isFreed_of_fields (Q4 hd _)),(Obj.cls_mapFields ..).trans hc,by rw[Q4 hd];simp[PK]⟩
theorem LU{it t:Addr}{i:Nat}{items}{Q:b_->g_->Prop}(hh:A.handled=none)(hit:s.heap.IsTupleIter it t i)(ht:s.heap.IsTuple t items)(hx:items[i]? = none)(hE:∀h' e,Heap.ExtBut it s.heap h'->(∃o,h'.get? e=some o/\o.cls=.type "StopIteration")->E (.ref e) { s with heap:=h' }):z_ (E_ prog w) A (Nz (.ref it)) Q E s:=by
 obtain⟨o,ho,hc,hd⟩:=id hit;obtain⟨ol,hol,_,nl,hdl⟩:=ht;unfold Nz;refine f_ (NR (name:=F_ "__next__") hit.typeIs F.slot_tuple_iterator_next
  (Oo F.slot_tuple_iterator_next hit.typeIs F.entry_tuple_iterator_next ?_ (F.args_tuple_iterator_next_1 _)))
 show z_ _ _ (field (.ref it) 0 >>= _) _ _ s;refine f_ (M0 ho hd (x:=.ref t) rfl ?_);show z_ _ _ (if (Value.ref t==Value.none)=true then _ else _) _ _ s;rw[if_neg (show ¬ ((Value.ref t==Value.none)=true)from i_)];show z_ _ _ (field (.ref it) 1 >>= _) _ _ s;refine f_ (M0 ho hd (x:=.int i 0) rfl ?_);show z_ _ _ (S4 (.ref t) >>= _) _ _ s;refine f_ (wpAny_seqItems hol hdl ?_);simp only[NF,hx];refine f_ (R9 (f_ (NS ho hd (by simp) ?_)));show z_ _ _ (newExc (.type "StopIteration") [] >>= _) _ _ _;refine f_ ?_;simp only[newExc,newTuple];refine f_ (Nd ?_ (by size_fits));refine f_ (m:=firstArgMember _ _) (wpAny_of_eq (a:=Value.none) (by first|rfl|(simp only[firstArgMember];rfl)) ?_);refine Nd ?_ (by size_fits);simp only[raiseNew];refine f_ (wpAny_handled ?_)
 first|rw[show A.in1.handled=none from hh]|rw[hh]
 refine f_ (r_ (wpAny_throw ?_));exact hE _ _ (((O9 ..).extBut.push _).push _) ⟨_,B_ _ rfl,rfl⟩
end
theorem yZ{prog:D_}{w:Mu}{A:Mw}(hh:A.handled=none)(it l:Addr)(hne:l≠it)(items:Array b_):Draws prog w A it [it,l] items.size (fun i v=>items[i]? = some v) (fun i h=>h.IsTupleIter it l i/\h.IsTuple l items) where
 live:=fun _ _ st=>let⟨o,ho,_⟩:=st.1;⟨o,ho⟩
 frame:=fun _ _ _ st hk=>⟨let⟨o,ho,r⟩:=st.1;⟨o,hk it (by simp) o ho,r⟩,let⟨o,ho,r⟩:=st.2;⟨o,hk l (by simp) o ho,r⟩⟩
 item:=fun i s Q E hi st hQ=>by refine LR st.1 st.2 (x:=items[i]) (by simp[hi]) fun h' hit' hs'=>?_;exact hQ _ h' s.toks (by simp[hi]) ⟨hit',st.2.extBut hs'.extBut hne⟩ hs'
 done:=fun s Q E st hE=>LU hh st.1 st.2 (by simp) hE
theorem LD(l:Addr)(items:Array b_)(n:Nat)(dct:Option Addr)(sl:Array (Option b_)) :
  Meets (Oy.«enumerate.__new__» ⟨[.type "enumerate",.ref l],[]⟩) (fun _ R s=>s.heap.get? l=some { cls:=.type "tuple",dict:=dct,data:=.seq items n,slots:=sl } /\
   R (.ok (.ret (.ref (s.heap.push { cls:=.type "tuple_iterator",data:=.fields #[.ref l,.int 0 0] }).objs.size)))
    { s with heap:=(s.heap.push { cls:=.type "tuple_iterator",data:=.fields #[.ref l,.int 0 0] }).push { cls:=.type "enumerate",data:=.fields #[.none,.bool false,.ref s.heap.objs.size,PK 0,.none,.none] } }):=
 .of_wp fun prog w A R s h=>by
  obtain⟨hp,g,d,tk,os⟩:=s;obtain⟨hl,h⟩:=h;have hsub:=sub_enumerate;have hL:Heap.IsTuple (Shared.heap ⟨hp,g,d,tk,os⟩) l items:=⟨_,hl,rfl,n,rfl⟩
  wp_walk using N5 hl
  refine wpAny_stack_any fun st=>r_ ?_;split
  .rename_i c _ _ _ _ _;cases(c==Value.type "enumerate")
   .wp_walk using N5 hl,OE hL
    exact⟨_,rfl,h⟩
   .wp_walk using N5 hl,OE hL
    exact⟨_,rfl,h⟩
  .wp_walk using N5 hl,OE hL
   exact⟨_,rfl,h⟩
section
variable{prog:D_}{w:Mu}{A:Mw}{E:b_->g_->Prop}{s:g_}
theorem LB{l:Addr}{items:Array b_}{Q:b_->g_->Prop}(hL:s.heap.IsTuple l items)(h:∀h',IsEnum h' (s.heap.objs.size+1) s.heap.objs.size 0 .none->h'.IsTupleIter s.heap.objs.size l 0->h'.objs.size=s.heap.objs.size+2 ->(∀b o,s.heap.get? b=some o->h'.get? b=some o)->Q (.ref (s.heap.objs.size+1)) { s with heap:=h' }):z_ (E_ prog w) A (call (.type "enumerate") [.ref l]) Q E s:=by
 obtain⟨⟨c,dct,dt,sl⟩,hl,hc,n,hd⟩:=hL;replace hc:c=.type "tuple" := hc;replace hd:dt=.seq items n:=hd;subst hc hd;refine callType_new F.called_enumerate (by decide) (F.typeCall_enumerate_1 _) (F.newCall_enumerate_1 _) (fun obj=>F.args_object_init_2 obj _) F.entry_enumerate_new
  (LD l items n dct sl) ⟨hl,?_⟩
 have hz:(s.heap.push { cls:=.type "tuple_iterator",data:=.fields #[.ref l,.int 0 0] }).objs.size=s.heap.objs.size+1:=OJ ..;show _/\_;rw[hz];have he:IsEnum ((s.heap.push { cls:=.type "tuple_iterator",data:=.fields #[.ref l,.int 0 0] }).push
   { cls:=.type "enumerate",data:=.fields #[.none,.bool false,.ref s.heap.objs.size,PK 0,.none,.none] }) (s.heap.objs.size+1) s.heap.objs.size 0 .none:=by
  have:=B_ (s.heap.push { cls:=.type "tuple_iterator",data:=.fields #[.ref l,.int 0 0] })
   (o:={ cls:=.type "enumerate",data:=.fields #[.none,.bool false,.ref s.heap.objs.size,PK 0,.none,.none] }) rfl
  rw[hz]at this;exact this
 refine⟨⟨_,he,rfl⟩,h _ he ⟨_,m_ _ (B_ _ rfl),rfl,rfl⟩ (by rw[OJ,hz]) fun b o x=>m_ _ (m_ _ x)⟩
end
theorem AE{X:Cx}{pz:List (Addr×Obj)}{σ:L2.St}{H:Hp}{s:g_}{h':Heap}{ch:List Addr}{T:Addr}{o:HO}{t':Nat}(I:Inv X pz σ H s)(hch:∀b∈ch,cS X pz H b)(k:∀b ob,b∉ch->s.heap.get? b=some ob->h'.get? b=some ob)(hT:s.heap.objs.size<=T)(new:bj X.prog X.w (upd H T o) h' T o):Inv X pz σ (upd H T o) { s with heap:=h',toks:=t' }:=by
 have hTn:H T=none:=I.hok.fresh hT;have trk:∀b u,H b=some u->b∉ch:=fun b u e hb=>by rw[(hch b hb).1]at e;cases e
 have neT:∀b ob,s.heap.get? b=some ob->b≠T:=fun b ob e=>Mv (A_ (t_ e) hT);have keepU:∀b u,H b=some u->upd H T o b=some u:=fun b u e=>by rw[aZ (jn e hTn)];exact e
 refine I.step (g':=s.gens) (d':=s.drawn) (ch:=ch) (fun b hb=>?_) (fun b ob _ _ hc e _=>k b ob hc e) (fun b ob _ _ hc e _=>⟨ob.slots,k b ob hc e⟩) (fun b ob hc e n=>by rw[aZ (neT b ob e)];exact n)
  (fun b ob hc e=>⟨ob,k b ob hc e⟩) (fun b xs e=>keepU b _ e) (fun b ob u e=>keepU b _ e) (fun b ps e=>⟨#[],by rw[keepU b _ e];simp⟩) (fun m hm=>?_) (fun b u e=>?_) I.bare
 .obtain⟨z0,z1,z2,z3,z4,z5⟩:=hch b hb;exact⟨z3,z1,z4,z5⟩
 .obtain⟨ob,es,ep,ho,r⟩:=hm;exact⟨ob,es,ep,k _ ob (fun hb=>(hch _ hb).2.1 rfl) ho,r⟩
 .by_cases hb:b=T
  .subst hb;rw[bT]at e;cases e;exact new
  .rw[aZ hb]at e;refine(I.hok b u e).stay (fun c v hc q=>k c v ?_ q) (fun c q=>keepU c _ q) fun c xs q=>keepU c _ q;rcases hc with z|z
   .rw[z];exact trk b u e
   .exact trk c _ z
def ky(sq:Hp->List V->Prop):It:=⟨fun i H=>∃xs x,sq H xs/\xs[i]? = some x,fun i H x H'=>∃p v,H p=none/\x=.ref p/\H'=upd H p (.tup [.int i,v])/\∀xs,sq H xs->xs[i]? = some v,fun i H=>∃xs,sq H xs/\xs.length=i⟩
theorem An{P:D_}{w:Mu}{H:Hp}{h:Heap}{T:Addr}{i:Nat}{tk:Tok}{x:b_}{v:V}(hT:h.get? T=some { cls:=.type "tuple",data:=.seq #[.int i tk,x] })(r:L2.am v x):bj P w H h T (.tup [.int i,v]):=⟨by show 2<=sizeLine;decide,[.int i tk,x],.cons ⟨tk,rfl⟩ (.cons r .nil),⟨_,hT,rfl,0,rfl⟩,_,hT,rfl⟩
theorem KA{P:D_}{w:Mu}{K:W.Frag}{elts:List Expr}{k:Nat}{pos:Pos}(a it e:Addr)(hei:e≠it):Turn P w K (.Tuple elts k pos) (ky fun H xs=>aU K H a xs) [e,it] e (fun i h=>(∃old,IsEnum h e it i old)/\h.IsListIter it a i) where
 mem:=by simp
 obj:=fun i h st b hb=>by
  obtain⟨⟨old,he⟩,o,ho,hc,hd⟩:=st;rcases p_.mp hb with rfl|hb
  .exact⟨_,he,fun v z=>by have z':Data.fields _=Data.cell v:=z;cases z'⟩
  .rw[MG.mp hb];exact⟨o,ho,fun v z=>by rw[hd]at z;cases z⟩
 keep:=fun i h h' st kk=>by obtain⟨⟨old,he⟩,hi⟩:=st;exact⟨⟨old,kk e (by simp) _ he⟩,hi.at fun o q=>kk it (by simp) o q⟩
 item:=by
  intro X hP hw hK hc i pz s σ H E I hf st hg;subst hP hw hK;obtain⟨xs,x,hq,hx⟩:=hg;obtain⟨its,rv,p,hz⟩:=I.list hq;obtain⟨⟨old,he⟩,hi⟩:=st;obtain⟨o1,ho1,hc1,hd1⟩:=id hi;obtain⟨o2,ho2,hc2,_⟩:=id p.isList;have hai:a≠it:=by rintro rfl;rw[ho1]at ho2;cases ho2;rw[hc1]at hc2;exact absurd hc2 (by decide)
  have hea:e≠a:=by rintro rfl;rw[he]at ho2;cases ho2;exact absurd (show Value.type "enumerate" = _ from hc2) (by decide)
  have hlt:i<its.toArray.size:=by have:=(h_.mp hx).1;rw[s_,<-rv.length];exact this
  refine P1 (Tx (A:=X.A.in1) (show X.A.in1.handled=none from I.ok.hd hc) it a hai its.toArray) he ⟨hi,p.isList⟩ hlt hei (by simp[hei,hea]) fun y h' tk hP ho hs' hT hsz hk=>?_;refine⟨_,rfl,Pm ho fun h'' he'' hs''=>?_⟩;obtain⟨u,hu,ru⟩:=rv.get hx;have hy:y=u:=by
   have:its[i]? = some y:=by simpa using hP
   rw[hu]at this;exact(C_ this).symm
  subst hy;have hTe:s.heap.objs.size≠e:=Ol (t_ he);have hT'':h''.get? s.heap.objs.size=some { cls:=.type "tuple",data:=.seq #[.int i tk,y] }:=(hs''.2 _ hTe).trans hT;refine⟨.ref s.heap.objs.size,upd H s.heap.objs.size (.tup [.int i,x]),AE (s:=s) (h':=h'') (t':=tk+1) (ch:=[e,it]) I hf (fun b ob hb q=>?_) (w_ _) (An hT'' ru),rfl,⟨_,x,I.hok.fresh (w_ _),rfl,rfl,fun ys hy=>by rw[I.list_inj hy hq];exact hx⟩,⟨⟨_,by simpa using he''⟩,hs'.1.extBut hs''.extBut (NO hei)⟩,fun b hb=>?_⟩
  .have hbe:b≠e:=fun z=>hb (by simp[z]);exact(hs''.2 b hbe).trans (hk b ob hbe (fun z=>hb (by simp[z])) q)
  .rw[aZ ?_]
   .exact(hf b hb).1
   .rcases p_.mp hb with rfl|hb
    .exact Mv (t_ he)
    .rw[MG.mp hb];exact Mv (t_ ho1)
 done:=by
  intro X hP hw hK hc i pz s σ H E I hf st hg;subst hP hw hK;obtain⟨xs,hq,hx⟩:=hg;obtain⟨its,rv,p,hz⟩:=I.list hq;obtain⟨⟨old,he⟩,hi⟩:=st;obtain⟨o1,ho1,hc1,hd1⟩:=id hi;obtain⟨o2,ho2,hc2,_⟩:=id p.isList;have hai:a≠it:=by rintro rfl;rw[ho1]at ho2;cases ho2;rw[hc1]at hc2;exact absurd hc2 (by decide)
  obtain⟨f0,f1,f2,f3,f4,f5⟩:=hf it (by simp);have hn:its.toArray.size=i:=by rw[s_,<-rv.length];exact hx
  refine Qp (Tx (A:=X.A.in1) (show X.A.in1.handled=none from I.ok.hd hc) it a hai its.toArray) he ⟨by rw[hn];exact hi,p.isList⟩ fun h' eb=>⟨rfl,I.turned (t':=s.toks) (fun b o hb q=>eb b o hb q) f0 f1 f3 f4 f5⟩
 self:=fun _ _ _ _ _ st h=>let⟨⟨_,he⟩,_⟩:=st;OP he h
theorem IsTupleIter.at'{h h':Heap}{a t:Addr}{i:Nat}(x:h.IsTupleIter a t i)(hs:∀o,h.get? a=some o->h'.get? a=some o):h'.IsTupleIter a t i:=let⟨o,ho,r⟩:=x;⟨o,hs o ho,r⟩
theorem KB{P:D_}{w:Mu}{K:W.Frag}{elts:List Expr}{k:Nat}{pos:Pos}(a it e:Addr)(hei:e≠it):Turn P w K (.Tuple elts k pos) (ky fun H xs=>bI K H a xs) [e,it] e (fun i h=>(∃old,IsEnum h e it i old)/\h.IsTupleIter it a i) where
 mem:=by simp
 obj:=fun i h st b hb=>by
  obtain⟨⟨old,he⟩,o,ho,hc,hd⟩:=st;rcases p_.mp hb with rfl|hb
  .exact⟨_,he,fun v z=>by have z':Data.fields _=Data.cell v:=z;cases z'⟩
  .rw[MG.mp hb];exact⟨o,ho,fun v z=>by rw[hd]at z;cases z⟩
 keep:=fun i h h' st kk=>by obtain⟨⟨old,he⟩,hi⟩:=st;exact⟨⟨old,kk e (by simp) _ he⟩,IsTupleIter.at' hi fun o q=>kk it (by simp) o q⟩
 item:=by
  intro X hP hw hK hc i pz s σ H E I hf st hg;subst hP hw hK;obtain⟨xs,x,hq,hx⟩:=hg;obtain⟨its,rv,p,hz⟩:=I.tuple hq;obtain⟨⟨old,he⟩,hi⟩:=st;obtain⟨o1,ho1,hc1,hd1⟩:=id hi;obtain⟨o2,ho2,hc2,_⟩:=id p;have hai:a≠it:=by rintro rfl;rw[ho1]at ho2;cases ho2;rw[hc1]at hc2;exact absurd hc2 (by decide)
  have hea:e≠a:=by rintro rfl;rw[he]at ho2;cases ho2;exact absurd (show Value.type "enumerate" = _ from hc2) (by decide)
  have hlt:i<its.toArray.size:=by have:=(h_.mp hx).1;rw[s_,<-rv.length];exact this
  refine P1 (yZ (A:=X.A.in1) (show X.A.in1.handled=none from I.ok.hd hc) it a hai its.toArray) he ⟨hi,p⟩ hlt hei (by simp[hei,hea]) fun y h' tk hP ho hs' hT hsz hk=>?_;refine⟨_,rfl,Pm ho fun h'' he'' hs''=>?_⟩;obtain⟨u,hu,ru⟩:=rv.get hx;have hy:y=u:=by
   have:its[i]? = some y:=by simpa using hP
   rw[hu]at this;exact(C_ this).symm
  subst hy;have hTe:s.heap.objs.size≠e:=Ol (t_ he);have hT'':h''.get? s.heap.objs.size=some { cls:=.type "tuple",data:=.seq #[.int i tk,y] }:=(hs''.2 _ hTe).trans hT;refine⟨.ref s.heap.objs.size,upd H s.heap.objs.size (.tup [.int i,x]),AE (s:=s) (h':=h'') (t':=tk+1) (ch:=[e,it]) I hf (fun b ob hb q=>?_) (w_ _) (An hT'' ru),rfl,⟨_,x,I.hok.fresh (w_ _),rfl,rfl,fun ys hy=>by rw[I.tuple_inj hy hq];exact hx⟩,⟨⟨_,by simpa using he''⟩,hs'.1.extBut hs''.extBut (NO hei)⟩,fun b hb=>?_⟩
  .have hbe:b≠e:=fun z=>hb (by simp[z]);exact(hs''.2 b hbe).trans (hk b ob hbe (fun z=>hb (by simp[z])) q)
  .rw[aZ ?_]
   .exact(hf b hb).1
   .rcases p_.mp hb with rfl|hb
    .exact Mv (t_ he)
    .rw[MG.mp hb];exact Mv (t_ ho1)
 done:=by
  intro X hP hw hK hc i pz s σ H E I hf st hg;subst hP hw hK;obtain⟨xs,hq,hx⟩:=hg;obtain⟨its,rv,p,hz⟩:=I.tuple hq;obtain⟨⟨old,he⟩,hi⟩:=st;obtain⟨o1,ho1,hc1,hd1⟩:=id hi;obtain⟨o2,ho2,hc2,_⟩:=id p;have hai:a≠it:=by rintro rfl;rw[ho1]at ho2;cases ho2;rw[hc1]at hc2;exact absurd hc2 (by decide)
  obtain⟨f0,f1,f2,f3,f4,f5⟩:=hf it (by simp);have hn:its.toArray.size=i:=by rw[s_,<-rv.length];exact hx
  refine Qp (yZ (A:=X.A.in1) (show X.A.in1.handled=none from I.ok.hd hc) it a hai its.toArray) he ⟨by rw[hn];exact hi,p⟩ fun h' eb=>⟨rfl,I.turned (t':=s.toks) (fun b o hb q=>eb b o hb q) f0 f1 f3 f4 f5⟩
 self:=fun _ _ _ _ _ st h=>let⟨⟨_,he⟩,_⟩:=st;OP he h
end
def jY:D->Option String
|.non=>some "NoneType"
|.bl _=>some "bool"
|.int _=>some "int"
|.str _=>some "str"
|.tup _=>some "tuple"
|.lst _=>some "list"
|.dic _=>some "dict"
|.obj _ _=>none
def fO(t T:String):Bool:=t==T || (t == "bool" && T == "int")
def iJ(T:String)(d:D):Option D:=(jY d).map fun t=>.bl (fO t T)
def CU(K:W.Frag)(x:V)(H:Hp)(t:String):Prop:=match x with
|.non=>t = "NoneType"
|.bl _=>t = "bool"
|.int _=>t = "int"
|.str _=>t = "str"
|.ref p=>(t = "list"/\∃xs,aU K H p xs)\/(t = "tuple"/\∃xs,bI K H p xs)\/(t = "dict"/\∃kvs,Rd H p (.dK kvs))
|_=>False
theorem Fk{K:W.Frag}{G:GH}{H:Hp}{v:V}{d:D}{t:String}(gk:aI K G H)(h:RB K G H v d)(e:jY d=some t):CU K v H t:=by cases d with
|non=>cases e;rw[h.non gk];rfl
|bl b=>cases e;rw[h.bl gk];rfl
|int i=>cases e;rw[h.int gk];rfl
|str x=>cases e;rw[h.str gk];rfl
|tup ds=>cases e;obtain⟨a,xs,rfl,s,r⟩:=h.tup gk;exact .inr (.inl ⟨rfl,xs,s⟩)
|lst ds=>cases e;obtain⟨a,xs,rfl,s,r⟩:=h.lst gk;exact .inl ⟨rfl,xs,s⟩
|dic ds=>cases e;obtain⟨a,xs,rfl,s,r⟩:=h.dic gk;exact .inr (.inr ⟨rfl,xs,s⟩)
|obj _ _=>cases e
section
variable{X:Cx}{g:GE}{m:List Md}{e a:Expr}{f:FE}{pos p p2:Pos}
theorem Ii:dw X (.builtin "isinstance") (fun xs H Q=>∃x t T b,xs=[x,.ty T]/\CU X.K x H t/\W.kitOne X.K (.type t) (.type T)=some b/\Q (.bl b) H):=by
 intro pz s σ H xs us Q I r h;obtain⟨x,t,T,b,rfl,ty,e,q⟩:=h;obtain⟨u,w',rfl,rx,ry⟩:=qM r;cases ry;have fin:∀tk,EP X pz σ Q (.bool b) { s with toks:=tk }:=fun tk=>⟨.bl b,H,I.tok tk,rfl,q⟩
 cases x with
|non=>cases rx;cases(show t = "NoneType" from ty);exact W.kia_one W.kitx_none I.kIn True.intro e (fun z=>nomatch z) fin
|bl y=>cases rx;cases(show t = "bool" from ty);exact W.kia_one W.kitx_bool I.kIn True.intro e (fun z=>nomatch z) fin
|int i=>obtain⟨t,rfl⟩:=rx;cases ty;exact W.kia_one W.kitx_int I.kIn True.intro e (fun z=>nomatch z) fin
|str i=>obtain⟨t,rfl⟩:=rx;cases ty;exact W.kia_one W.kitx_str I.kIn True.intro e (fun z=>nomatch z) fin
|ref p=>
  cases rx;rcases ty with⟨rfl,xs,hq⟩|⟨rfl,xs,hq⟩|⟨rfl,kvs,hq⟩
  .obtain⟨its,_,pl,_⟩:=I.list hq;obtain⟨o,ho,hc,_⟩:=pl.isList;exact W.kia_one W.kitx_list I.kIn ⟨o,ho,hc⟩ e (fun z=>nomatch z) fin
  .obtain⟨its,_,pl,_⟩:=I.tuple hq;obtain⟨o,ho,hc,_⟩:=pl;exact W.kia_one W.kitx_tuple I.kIn ⟨o,ho,hc⟩ e (fun z=>nomatch z) fin
  .obtain⟨_,_,vs,_,pp⟩:=(show bj X.prog X.w H s.heap p (.dK kvs)from hq.ok I.hok)
   obtain⟨o,es,ep,h1,h2,_⟩:=pp;exact W.kia_one W.kitx_dict I.kIn ⟨o,h1,h2.1⟩ e (fun z=>nomatch z) fin
|_=>exact(show False from ty).elim
theorem xW(x:Str)(T:String)(hv:NX x=some (.type T))(hk:∀(d:D)(t:String),jY d=some t->W.kitOne X.K (.type t) (.type T)=some (fO t T))(hg:Gl X "isinstance")(hm:X.mg "isinstance" = none)(hgT:Gl X x)(hmT:X.mg x=none)(he:SB X g m e f)(hn:x≠"__name__" := by decide)(hd:(x==("__debug__" : Str))=false:=by decide)(hs1:j_ [e,.Name x p2] X.env=(false,eval e X.env)::j_ [.Name x p2] X.env:=by rfl)(hs2:j_ [.Name x p2] X.env=(false,eval (.Name x p2) X.env)::j_ [] X.env:=by rfl)(hpl:(backTo pos (j_ [.Name x p2] X.env)).any (·.1)=false:=by rfl):SE X g m (.Call (.Name "isinstance" p) [e,.Name x p2] [] pos) (f1 f (iJ T)):=by
 refine PE.imp (k4 Ii hg hm (by first|exact O7|rfl) (gs he (gs (Ao (v:=.ty T) hgT hmT hv rfl hn hd) je hs2) hs1) (by decide) (by decide) hs1 hpl) fun σ H Q ⟨r,G,si,q⟩=>⟨r,G,si,aW (aY q) fun d q1 v G1 H1 w1 r1=>?_⟩
 obtain⟨d',e',q2⟩:=cb q1;unfold iJ at e';cases et:jY d with
|none=>rw[et]at e';cases e'
|some t=>rw[et]at e';cases e';exact⟨v,t,T,_,rfl,Fk w1.ok r1 et,hk d t et,q2 _ G1 H1 w1 (.scl (.bl _))⟩
end
theorem BC{d:D}{t:String}(h:jY d=some t){P:String->Prop}(h1:P "NoneType")(h2:P "bool")(h3:P "int")(h4:P "str")(h5:P "tuple")(h6:P "list")(h7:P "dict"):P t:=by cases d <;> cases h <;> assumption
theorem GA(K:W.Frag)(d:D)(t:String)(h:jY d=some t):W.kitOne K (.type t) (.type "int")=some (fO t "int"):=BC (P:=fun t=>W.kitOne K (.type t) (.type "int")=some (fO t "int")) h (by kernel_rfl) (by kernel_rfl) (by kernel_rfl) (by kernel_rfl) (by kernel_rfl) (by kernel_rfl) (by kernel_rfl)
theorem HR(K:W.Frag)(d:D)(t:String)(h:jY d=some t):W.kitOne K (.type t) (.type "bool")=some (fO t "bool"):=BC (P:=fun t=>W.kitOne K (.type t) (.type "bool")=some (fO t "bool")) h (by kernel_rfl) (by kernel_rfl) (by kernel_rfl) (by kernel_rfl) (by kernel_rfl) (by kernel_rfl) (by kernel_rfl)
section
variable{X:Cx}{g:GE}{m:List Md}{e a b:Expr}{f fa:FE}{pos p pos2 p2:Pos}{es:List Expr}{fl:aj->Res (List D)}
def de(lo:Int)(n:Nat):List V:=(a_ n).map fun(i:Nat)=>V.int (lo+(i:Int))
theorem FC{K:W.Frag}{G:GH}(lo:Int)(n:Nat):bx K G (de lo n) (cJ lo n):=by
 unfold de cJ
 induction(a_ n)with
|nil=>exact .nil
|cons i l ih=>exact .cons (.scl (.int _)) ih
theorem tK:∀{xs:List V}{us:List b_},xs.length=us.length->(∀(j:Nat) v u,xs[j]? = some v->us[j]? = some u->L2.am v u)->ai xs us
|[],[],_,_=>.nil
|v::xs,u::us,hl,h=>.cons (h 0 v u rfl rfl) (tK (by simpa using hl) fun j a b e1 e2=>h (j+1) a b (by simpa using e1) (by simpa using e2))
|[],_::_,hl,_=>by simp at hl
|_::_,[],hl,_=>by simp at hl
theorem Je{lo:Int}{n:Nat}{acc:Array b_}(h:ItemsOf (fun i v=>∃t,v=.int (lo+i*1) t) acc n):ai (de lo n) acc.toList:=by
 refine tK (by simp[de,h.1]) fun j v u e1 e2=>?_;have hj:j<n:=by have:=(h_.mp e1).1;simpa[de]using this
 unfold de at e1;rw[x_,MZ hj]at e1;cases e1;obtain⟨t,rfl⟩:=h.2 j u (by rw[<-N_];exact e2);exact⟨t,by simp⟩
theorem JM:dw X (.type "range") (fun xs H Q=>∃j,xs=[.int j]/\∀p,H p=none->Q (.ref p) (upd H p (.rng 0 j))):=by intro pz s σ H xs us Q I r h;obtain⟨j,rfl,q⟩:=h;obtain⟨u,rfl,t,rfl⟩:=fJ r;refine call_range_1 ⟨.ref s.heap.objs.size,_,I.laid (o:=.rng 0 j) (fun b o e=>m_ _ e) (w_ _) ⟨_,_,_,B_ _ rfl⟩,rfl,q _ (I.hok.fresh (w_ _))⟩
theorem Lu(hc:X.calm=true):dw X (.type "list") (fun xs H Q=>∃p lo hi,xs=[.ref p]/\H p=some (.rng lo hi)/\(-(2^62)<=lo/\lo<2^62/\-(2^62)<=hi/\hi<2^62)/\(hi-lo).toNat<=sizeLine/\∀l,H l=none->Q (.ref l) (upd H l (.lst (de lo (hi-lo).toNat)))):=by
 intro pz s σ H xs us Q I r h;obtain⟨p,lo,hi,rfl,hp,⟨h1,h2,h3,h4⟩,hz,q⟩:=h;obtain⟨u,rfl,rx⟩:=fJ r;cases rx;obtain⟨t,u,v,ho⟩:=(show bj X.prog X.w H s.heap p (.rng lo hi)from I.hok p _ hp)
 have e2:PX lo hi 1=(((hi-lo).toNat:Nat):Int):=by rw[rangeSize_one];split <;> omega
 refine call_list_range (I.ok.hd hc) (r:=p) (a:=lo) (b:=hi) (c:=1) ho (small_one h1 h2 h3 h4) e2 (by rw[MU]at hz;omega) fun h' tk acc c' kp hS hacc=>?_;refine⟨.ref s.heap.objs.size,_,I.laid (t':=tk) kp (w_ _) (show bj X.prog X.w _ h' _ (.lst (de lo (hi-lo).toNat))from⟨by unfold de;rw[l_,Oc];exact hz,acc.toList,c',Je hacc,by rw[QF];exact hS⟩),rfl,q _ (I.hok.fresh (w_ _))⟩
def jA:List D->Option D
|[.int j]=>if-(2^62)<=j/\j<2^62/\j.toNat<=sizeLine then some (.lst (cJ 0 j.toNat))else none
|_=>none
theorem yI{H:Hp}{p l:Addr}{o:HO}(h:upd H p o l=none):H l=none/\l≠p:=by
 by_cases e:l=p
 .subst e;rw[bT]at h;cases h
 .rw[aZ e]at h;exact⟨h,e⟩
theorem rF(hc:X.calm=true)(hgl:Gl X "list")(hml:X.mg "list" = none)(hg:Gl X "range")(hm:X.mg "range" = none)(ha:gw X g m [a] fl)(hs:j_ [a] X.env=(false,eval a X.env)::j_ [] X.env:=by rfl)(hs2:j_ [.Call (.Name "range" p2) [a] [] pos2] X.env=(false,eval (.Call (.Name "range" p2) [a] [] pos2) X.env)::j_ [] X.env:=by rfl):SO X g m (.Call (.Name "list" p) [.Call (.Name "range" p2) [a] [] pos2] [] pos) (fC fl jA):=by
 refine PE.imp (mI (Lu hc) hgl hml rfl (gs (mI JM hg hm boot_range ha (by decide) (by decide) hs rfl) je hs2) (by decide) (by decide) hs2 rfl) fun σ H Q ⟨r,G,si,q⟩=>⟨r,G,si,aW (aY q) fun ds q1 vs G1 H1 w1 rs=>?_⟩
 obtain⟨d,e,q2⟩:=cb q1;unfold jA at e;split at e
 .split at e
  .rename_i j hj;cases e;cases rs with
  |cons r1 t=>cases t;refine⟨j,by rw[r1.int w1.ok],fun p hp=>⟨p,0,j,rfl,bT,⟨by decide,by decide,hj.1,hj.2.1⟩,by simpa using hj.2.2,fun l hl=>?_⟩⟩;obtain⟨hl1,hl2⟩:=yI hl;have w2:=Grow.new w1.ok hp (.rng 0 j);have w3:=Grow.new w2.ok hl (.lst (de 0 (j-0).toNat));refine q2 l G1 _ (w1.trans (w2.trans w3)) (w1.back hl1) ⟨w1.ok.isN hl1,.lst bT ?_⟩;rw[show j-0=j by omega];exact FC 0 _
  .cases e
 .cases e
end
def CW(K:W.Frag)(r:V->List V->Hp->VK->Prop)(k:D->List D->Option D):Prop:=∀(G:GH)(H:Hp)(v:V)(d:D)(vs:List V)(ds:List D)(d':D)(Q:VK),aI K G H->RB K G H v d->Paired (RB K G H) vs ds->k d ds=some d' ->(∀v' G' H',Grow K G H G' H'->RG K G' v' d'->Q v' H')->r v vs H Q
def qd(T:String):D->Bool
|.lst _=>T == "list"
|.tup _=>T == "tuple"
|.dic _=>T == "dict"
|.str _=>T == "str"
|.int _=>T == "int"
|_=>false
theorem Fl{K:W.Frag}{G:GH}{H:Hp}{v:V}{d:D}{T:String}(gk:aI K G H)(h:RB K G H v d)(t:qd T d=true):lv K T v H:=by cases d with
|lst ds=>obtain⟨a,xs,rfl,s,r⟩:=h.lst gk;exact .inl ⟨No t,xs,s⟩
|tup ds=>
  have e:T = "tuple" := No t;rcases h with h|⟨a,rfl,o⟩
  .cases h with
  |scl s=>cases s
  |ref q=>cases gk _ _ q with
   |tup r s=>exact .inr (.inl ⟨e,.inr ⟨_,r⟩⟩)
  |kc k=>cases k with
   |tup r s z=>exact .inr (.inl ⟨e,.inl z⟩)
  .cases o.ob
|dic ds=>obtain⟨a,xs,rfl,s,r⟩:=h.dic gk;exact .inr (.inr (.inl ⟨No t,.inl ⟨xs,s⟩⟩))
|str x=>rw[h.str gk];exact No t
|int x=>rw[h.int gk];exact No t
|_=>cases t
def fM(T:String)(fo:FE)(fl:aj->Res (List D))(k:D->List D->Option D):FE:=fun r=>(fo r).bind fun d=>if qd T d=true then(fl r).bind fun ds=>bK (k d ds)else .stuck
section
variable{X:Cx}{g:GE}{m mb:List Md}{e a b o:Expr}{es:List Expr}{f fa fb fo:FE}{fl:aj->Res (List D)}{pos pos' apos cpos:Pos}{ro:Bool}{x name:Str}{T id:String}{R:V->List V->Hp->VK->Prop}{k:D->List D->Option D}
theorem vS(pa:Q0 T)(slot:Slot T name id)(hty:Rw (.builtin id)=pure (.type "method_descriptor"))(hmt:f8 X id R)(hk:CW X.K R k)(ho:SB X g m o fo)(ha:gw X g m (e::es) fl)(hbase:N8 o name X.env (eval o X.env)=eval o X.env:=by rfl)(hfew:((backTo cpos (j_ (e::es) X.env)).all (fun x=>! x.1)&&(Ri cpos (Px [] X.env)).all (fun x=>x.1.isSome)&&decide ((e::es).length+([]:List OX).length+(if ([]:List OX).isEmpty then 0 else 1)<30))=true:=by rfl)(hline:(apos.endLine==cpos.line)=true:=by rfl)(hst:j_ (e::es) X.env=(false,eval e X.env)::j_ es X.env:=by rfl)(hplain:(backTo cpos (j_ es X.env)).any (·.1)=false:=by rfl):SE X g m (.Call (.Attribute o name apos) (e::es) [] cpos) (fM T fo fl k):=by
 refine PE.imp (xI pa slot hty hmt ho ha hbase hfew hline hst hplain) fun σ H Q ⟨r,G,si,q⟩=>⟨r,G,si,aW (aY q) fun d q1 v G1 H1 w1 r1=>?_⟩
 by_cases ht:qd T d=true
 .rw[if_pos ht]at q1;refine⟨Fl w1.ok r1 ht,r,G1,si.grow w1,d8 (aY q1) w1 fun ds q2 vs G2 H2 w2 rs=>?_⟩;obtain⟨d',e',q3⟩:=cb q2;exact hk G2 H2 v d vs ds d' Q w2.ok (r1.mono w2) rs e' fun v' G' H' w' z=>q3 v' G' H' ((w1.trans w2).trans w') z
 .rw[if_neg ht]at q1;exact q1.elim
def jw(x:V):List V->Option Nat
|[]=>none
|y::xs=>if dZ y x=true then some 0 else(jw x xs).map (· + 1)
def iS(x:D):List D->Option Nat
|[]=>none
|y::xs=>if eqs y x=true then some 0 else(iS x xs).map (· + 1)
theorem Az(x:D):∀ds:List D,jw (dz x) (ds.map dz)=iS x ds
|[]=>rfl
|y::ds=>by show(if dZ (dz y) (dz x)=true then some 0 else(jw (dz x) (ds.map dz)).map (· + 1))=if eqs y x=true then some 0 else(iS x ds).map (· + 1);rw[Az x ds];rfl
theorem HJ{x:V}{xs:List V}{us:List b_}{j:Nat}(h0:ai xs us)(f:xs.all eD=true)(h:jw x xs=some j):∃hj:j<us.length,cQ x us[j]=true/\∀i (hi:i<us.length),i<j->cQ x us[i]=false:=by induction h0 generalizing j with
|nil=>cases h
|@cons y u xs us r t ih=>
  rw[Nq,I_]at f;unfold jw at h;by_cases hy:dZ y x=true
  .rw[if_pos hy]at h;cases h;exact⟨Nat.zero_lt_succ _,by show cQ x u=true;rw[l0 r f.1];exact hy,fun i _ hlt=>absurd hlt (Nat.not_lt_zero _)⟩
  .rw[if_neg hy]at h;cases e:jw x xs with
  |none=>rw[e]at h;cases h
  |some z=>rw[e]at h;cases h;obtain⟨a,b,c⟩:=ih f.2 e;refine⟨Nat.succ_lt_succ a,b,fun i hi hlt=>?_⟩;cases i with
   |zero=>show cQ x u=false;rw[l0 r f.1];simpa using hy
   |succ i=>exact c i (Qq hi) (Qq hlt)
def i7(xs:List V):Bool:=xs.all fun x=>match x with|.int _=>true|_=>false
theorem K2{xs:List V}(h:i7 xs=true):xs.all eD=true:=by unfold i7 at h;rw[MP]at h ⊢;intro x hx;have:=h x hx;cases x <;> first|rfl|exact absurd this i_
theorem A8{k:Int}{t:Tok}:∀{xs:List V}{us:List b_},ai xs us->i7 xs=true->∀u∈us,Ry u (.int k t) (cQ (.int k) u)
|_,_,.nil,_=>fun u hu=>by cases hu
|y::xs,u::us,.cons r rt,f=>fun u' hu=>by unfold i7 at f;rw[Nq,I_]at f;cases y with
 |int i=>
   obtain⟨t',rfl⟩:=r;rcases p_.mp hu with rfl|hu
   .exact MeetsSeq.EqGives.int i k t' t
   .exact A8 rt f.2 u' hu
 |_=>exact absurd f.1 i_
def yA:V->List V->Hp->VK->Prop:=fun x vs H Q=>∃l xs k j,x=.ref l/\vs=[.int k]/\H l=some (.lst xs)/\i7 xs=true/\jw (.int k) xs=some j/\Q .non (upd H l (.lst (xs.eraseIdx j)))
theorem Jy:f8 X "list.remove" yA:=by
 intro pz s σ H x vs v us Q I rx rv h;obtain⟨l,xs,k,j,rfl,rfl,hH,hi,e,q⟩:=h;cases rx;obtain⟨u,rfl,t,rfl⟩:=fJ rv;obtain⟨hz,its,n,r,hl,eo⟩:=I.lstM hH;obtain⟨a,b,c⟩:=HJ r (K2 hi) e;have geq:∀y,y∈its.toArray->Ry y (.int k t) (cQ (.int k) y):=fun y hy=>A8 r hi y (by simpa using hy);have hsz:its.toArray.size<=sizeLine:=by rw[s_];omega
 refine Q1 PP ⟨_,eo,rfl⟩ PySem.F.entry_list_remove (PySem.F.args_list_remove_2 _ _) (MeetsSeq.list_remove l its.toArray n (.int k t) (cQ (.int k)) geq j (by simpa using a) (by simpa using b) (fun i hi hlt=>by simpa using c i (by simpa using hi) hlt) hsz) ⟨eo,?_⟩;refine⟨.non,_,I.lset (its':=its.eraseIdx j) hH eo ?_ ?_ ?_,rfl,q⟩
 .apply Array.toList_inj.mp;simp[Array.toList_eraseIdxIfInBounds]
 .exact ai.eraseIdx j r
 .have:=List.length_eraseIdx_le xs j;omega
def isInt:D->Bool
|.int _=>true
|_=>false
theorem E7{K:W.Frag}{G:GH}{H:Hp}{xs:List V}{ds:List D}(h:bx K G xs ds)(gk:aI K G H)(hf:ds.all isInt=true):i7 xs=true/\xs=ds.map dz:=by induction h with
|nil=>exact⟨rfl,rfl⟩
|@cons x d xs ds r t ih=>rw[Nq,I_]at hf;obtain⟨h1,h2⟩:=ih hf.2;cases d with
 |int i=>have e:=r.int gk;subst e;refine⟨?_,by rw[G_,<-h2];rfl⟩;show i7 _=true;unfold i7 at h1 ⊢;rw[Nq,h1];rfl
 |_=>exact absurd hf.1 i_
def remD:D->List D->Option D
|.lst ds,[.int k]=>if ds.all isInt=true then(iS (.int k) ds).map fun j=>.lst (ds.eraseIdx j)else none
|_,_=>none
theorem FB{K:W.Frag}:fZ K yA remD:=by
 intro G H a d vs ds d' Q gk ow rs e q;unfold remD at e;split at e
 .split at e
  .rename_i zs k hall;cases ef:iS (.int k) zs with
  |none=>rw[ef]at e;cases e
  |some j=>rw[ef]at e;cases e;cases ow.ob with
   |lst r s=>cases rs with
    |cons r1 t=>cases t;obtain⟨h1,h2⟩:=E7 s gk hall;refine⟨a,_,k,j,rfl,by rw[r1.int gk],r,h1,?_,q _ (.lst bT (Paired.er j s))⟩;rw[h2];exact(Az (.int k) zs).trans ef
  .cases e
 .cases e
def lV(kvs more:List (au×D)):List (au×D):=more.foldl (fun acc kv=>cz acc kv.1 kv.2) kvs
theorem GF{K:W.Frag}{G:GH}{more:List (au×V)}{moreD:List (au×D)}{ps:List (au×V)}{kvs:List (au×D)}(hm:du K G more moreD)(h:du K G ps kvs):du K G (ja ps more) (lV kvs moreD):=by induction hm generalizing ps kvs with
|nil=>exact h
|@cons p q m md r t ih=>have e:p.1=q.1:=r.1;show du K G (ja (bF ps p.1 p.2) _) (lV (cz kvs q.1 q.2) _);rw[e];exact ih (xJ h r.2)
def Ac:V->List V->Hp->VK->Prop:=fun x vs H Q=>∃d o kvs more,x=.ref d/\vs=[.ref o]/\d≠o/\H d=some (.dK kvs)/\Rd H o (.dK more)/\kvs.length+more.length<=sizeLine/\Q .non (upd H d (.dK (ja kvs more)))
theorem A9:f8 X "dict.update" Ac:=by
 intro pz s σ H x vs v us Q I rx rv h;obtain⟨d,o,kvs,more,rfl,rfl,hne,hd,ho,hz,q⟩:=h;cases rx;obtain⟨u,rfl,ru⟩:=fJ rv;cases ru;obtain⟨z1,ns1,vs1,r1,dd1⟩:=(show bj X.prog X.w H s.heap d (.dK kvs)from I.hok d _ hd)
 obtain⟨z2,ns2,vs2,r2,dd2⟩:=(show bj X.prog X.w H s.heap o (.dK more)from ho.ok I.hok)
 have l1:=Paired.length r1;have l2:=Paired.length r2;refine call_meetsIn Ox dd1.typeIs PySem.F.entry_dict_update (PySem.F.args_dict_update_2 _ _) (meets_dict_update (dQ X.prog X.w) d o hne ns2) ⟨vs1,vs2,dd1,dd2,by omega,fun h' hm1 hm2 hs=>?_⟩;have hlen:(ja kvs more).length<=sizeLine:=MI (Cn more kvs) hz;refine⟨.non,_,I.write (t':=s.toks) (x:=d) (e:=d) (by rw[hd];exact trivial) (.inl rfl) (fun b u hb hu=>(hs.2 b hb).trans hu) (let⟨ob,_,_,e,_⟩:=hm1;⟨ob,e⟩) (show bj X.prog X.w _ h' d (.dK (ja kvs more))from⟨hlen,ns1,_,KV.merge r2 r1,hm1⟩),rfl,q⟩
def updD:D->List D->Option D
|.dic kvs,[.dic more]=>if kvs.length+more.length<=sizeLine then some (.dic (lV kvs more))else none
|_,_=>none
theorem zb{K:W.Frag}:fZ K Ac updD:=by
 intro G H a d vs ds d' Q gk ow rs e q;unfold updD at e;split at e
 .split at e
  .rename_i kvs more hl;cases e;cases ow.ob with
  |dic r s=>cases rs with
   |cons r1 t=>
     cases t;have hb:∃b ps,_=V.ref b/\Rd H b (.dK ps)/\du K G ps more:=r1.dic gk;obtain⟨b,ps,rfl,hb,rb⟩:=hb;have hab:a≠b:=by
      rintro rfl
      cases r1 with
     |scl s=>cases s
     |ref z=>rw[ow.un]at z;cases z
     |kc k=>cases k
     have l1:=Paired.length s;have l2:=Paired.length rb;exact⟨a,b,_,ps,rfl,rfl,hab,r,hb,by omega,q _ (.dic bT (GF rb s))⟩
  .cases e
 .cases e
def Eg:V->List V->Hp->VK->Prop:=fun x vs H Q=>∃d kvs,x=.ref d/\vs=[]/\Rd H d (.dK kvs)/\∀p,H p=none->Q (.ref p) (upd H p (.ext fun h=>h.IsValuesView p d))
theorem Jz:f8 X "dict.values" Eg:=by
 intro pz s σ H x vs v us Q I rx rv h;obtain⟨d,kvs,rfl,rfl,hd,q⟩:=h;cases rx;cases rv;obtain⟨z1,ns1,vs1,r1,dd1⟩:=(show bj X.prog X.w H s.heap d (.dK kvs)from hd.ok I.hok)
 refine call_meetsIn PQ dd1.typeIs PySem.F.entry_dict_values (PySem.F.args_dict_values_1 _) (meets_dict_values (dQ X.prog X.w) d ns1) ⟨⟨vs1,dd1⟩,?_⟩;refine⟨.ref s.heap.objs.size,_,I.laid (t':=s.toks) (o:=.ext fun h=>h.IsValuesView s.heap.objs.size d) (fun b ob e=>m_ _ e) (w_ _) ?_,rfl,q _ (I.hok.fresh (w_ _))⟩;refine⟨⟨_,B_ _ rfl,rfl,rfl⟩,⟨_,B_ _ rfl⟩,fun h1 h2 hv hk=>?_⟩;obtain⟨ob,e,c⟩:=hv;exact⟨ob,hk ob e,c⟩
theorem LI(hc:X.calm=true):dw X (.type "list") (fun xs H Q=>∃p d kvs,xs=[.ref p]/\H p=some (.ext fun h=>h.IsValuesView p d)/\Rd H d (.dK kvs)/\∀l,H l=none->Q (.ref l) (upd H l (.lst (kvs.map (·.2))))):=by
 intro pz s σ H xs us Q I r h;obtain⟨p,d,kvs,rfl,hp,hd,q⟩:=h;obtain⟨u,rfl,rx⟩:=fJ r;cases rx;obtain⟨hv,_,_⟩:=(show bj X.prog X.w H s.heap p (.ext fun h=>h.IsValuesView p d)from I.hok p _ hp)
 obtain⟨z1,ns1,vs1,r1,dd1⟩:=(show bj X.prog X.w H s.heap d (.dK kvs)from hd.ok I.hok)
 obtain⟨ep,hat⟩:=dd1.dictAt;have l1:=Paired.length r1;refine W.kdl_call (W.kdl_values (knd:=dQ X.prog X.w) (kvs:=vs1) (ep:=ep)) (I.ok.hd hc) ⟨hv,hat⟩ (by omega) fun h' tk acc c' kp hS hacc=>?_;have hvals:ai (kvs.map (·.2)) acc.toList:=by refine tK (by have h1:=hacc.1;have h2:acc.toList.length=acc.size:=NP;rw[l_];omega) fun j v u e1 e2=>?_;obtain⟨k,hk⟩:=hacc.2 j u (by rw[<-N_];exact e2);rw[x_]at e1;cases e3:kvs[j]? with
 |none=>rw[e3]at e1;cases e1
 |some kv=>rw[e3]at e1;cases e1;obtain⟨kv',e4,e5⟩:=Paired.get r1 hk;rw[e3]at e4;cases e4;exact e5.2
 refine⟨.ref s.heap.objs.size,_,I.laid (t':=tk) kp (w_ _) (show bj X.prog X.w _ h' _ (.lst (kvs.map (·.2)))from⟨by rw[l_];exact z1,acc.toList,c',hvals,by rw[QF];exact hS⟩),rfl,q _ (I.hok.fresh (w_ _))⟩
def qN:D->Option D
|.dic kvs=>some (.lst (kvs.map (·.2)))
|_=>none
theorem zc{K:W.Frag}{G:GH}:∀{ps:List (au×V)}{kvs:List (au×D)},du K G ps kvs->bx K G (ps.map (·.2)) (kvs.map (·.2))
|_,_,.nil=>.nil
|_,_,.cons r t=>.cons r.2 (zc t)
theorem EX(hc:X.calm=true)(hg:Gl X "list")(hm:X.mg "list" = none)(ho:SB X g m o fo)(hbase:N8 o "values" X.env (eval o X.env)=eval o X.env:=by rfl)(hline:(apos.endLine==cpos.line)=true:=by rfl)(hs2:j_ [.Call (.Attribute o "values" apos) [] [] cpos] X.env=(false,eval (.Call (.Attribute o "values" apos) [] [] cpos) X.env)::j_ [] X.env:=by rfl):SO X g m (.Call (.Name "list" pos') [.Call (.Attribute o "values" apos) [] [] cpos] [] pos) (f1 fo qN):=by
 refine PE.imp (mI (LI hc) hg hm rfl (gs (Er OI PQ PySem.F.type_dict_values Jz ho hbase hline) je hs2) (by decide) (by decide) hs2 rfl) fun σ H Q ⟨r,G,si,q⟩=>⟨r,G,si,aW (aY q) fun d q1 v G1 H1 w1 r1=>?_⟩
 obtain⟨d',e,q2⟩:=cb q1;cases d with
|dic kvs=>
  cases e;obtain⟨a,ps,rfl,hs,rs⟩:=r1.dic w1.ok;refine⟨.inr (.inr (.inl ⟨rfl,.inl ⟨ps,hs⟩⟩)),a,ps,rfl,rfl,hs,fun p hp=>⟨p,a,ps,rfl,bT,?_,fun l hl=>?_⟩⟩
  .exact Rd.mono hs fun a o e=>q9 hp _ _ e
  .obtain⟨hl1,hl2⟩:=yI hl;have w2:=Grow.new w1.ok hp (.ext fun h=>h.IsValuesView p a);have w3:=Grow.new w2.ok hl (.lst (ps.map (·.2)));exact q2 l G1 _ (w1.trans (w2.trans w3)) (w1.back hl1) ⟨w1.ok.isN hl1,.lst bT (zc rs)⟩
|_=>cases e
end
def cY:Nat->List D->List D
|_,[]=>[]
|i,d::ds=>.tup [.int i,d]::cY (i+1) ds
theorem rY:∀(i:Nat)(ds:List D),(cY i ds).length=ds.length
|_,[]=>rfl
|i,d::ds=>congrArg (· + 1) (rY (i+1) ds)
theorem Av:∀(i j:Nat)(ds:List D),(cY i ds)[j]? = (ds[j]?).map fun d=>D.tup [.int ((i+j:Nat):Int),d]
|_,_,[]=>by simp[cY]
|i,0,d::ds=>by simp[cY]
|i,j+1,d::ds=>by show(cY (i+1) ds)[j]? = _;rw[Av (i+1) j ds];simp only[List.getElem?_cons_succ];rw[show i+1+j=i+(j+1)by omega]
def nK(f:FE):FI:=fun r=>(f r).bind fun d=>(bK (b9 d)).bind fun ds=>.ok (cY 0 ds)
section
variable{X:Cx}{g:GE}{m:List Md}{e a:Expr}{f:FE}{pos p pos2:Pos}{elts:List Expr}{kk:Nat}
theorem Gm{te:TE}(hg:Gl X "enumerate")(hm:X.mg "enumerate" = none)(he:PE X e te)(hs:j_ [e] X.env=(false,eval e X.env)::j_ [] X.env:=by rfl):PI X (.Tuple elts kk pos2) (.Call (.Name "enumerate" p) [e] [] pos) (fun σ H R=>te σ H fun x H1=>(∃a,x=.ref a/\(∃xs,aU X.K H1 a xs)/\R (ky fun H xs=>aU X.K H a xs) H1)\/∃a,x=.ref a/\(∃xs,bI X.K H1 a xs)/\R (ky fun H xs=>bI X.K H a xs) H1):=by
 intro pz s σ H R I h;refine Call_ (lU I hg hm boot_enumerate (Ob (aG (gs he je hs pos pz s σ H (fun vs H1=>match vs with
 |[x]=>(∃a,x=.ref a/\(∃xs,aU X.K H1 a xs)/\R (ky fun H xs=>aU X.K H a xs) H1)\/∃a,x=.ref a/\(∃xs,bI X.K H1 a xs)/\R (ky fun H xs=>bI X.K H a xs) H1
 |_=>False) I h) fun us s1 ⟨vs,H1,I1,r1,q1⟩=>?_) hs rfl))
 .cases r1 with
 |nil=>exact q1.elim
 |@cons x u xs us rx rt=>cases rt with
 |cons _ _=>exact q1.elim
 |nil=>
  have fin:∀{h':Heap},h'.objs.size=s1.heap.objs.size+2->(∀b o,s1.heap.get? b=some o->h'.get? b=some o)->∀b∈[s1.heap.objs.size+1,s1.heap.objs.size],cS X pz H1 b:=fun hz kp b hb=>by
   have hge:s1.heap.objs.size<=b:=by
    rcases p_.mp hb with rfl|hb
    .exact RJ _
    .rw[MG.mp hb];exact w_ _
   exact I1.fpOk hge (I1.hok.fresh hge)
  rcases q1 with⟨a,rfl,⟨xs,hq⟩,q⟩|⟨a,rfl,⟨xs,hq⟩,q⟩
  .cases rx;obtain⟨its,rv,pl,hz⟩:=I1.list hq;refine call_enumerate_list pl.isList fun h' he hi hsz kp=>OP he ?_;exact⟨_,[s1.heap.objs.size+1,s1.heap.objs.size],_,_,H1,rfl,I1.kept (t':=s1.toks) kp,KA a _ _ (Ol (Om _)),⟨⟨_,he⟩,hi⟩,fin hsz kp,q⟩
  .cases rx;obtain⟨its,rv,pl,hz⟩:=I1.tuple hq;refine LB (show s1.heap.IsTuple a its.toArray from pl) fun h' he hi hsz kp=>OP he ?_;exact⟨_,[s1.heap.objs.size+1,s1.heap.objs.size],_,_,H1,rfl,I1.kept (t':=s1.toks) kp,KB a _ _ (Ol (Om _)),⟨⟨_,he⟩,hi⟩,fin hsz kp,q⟩
end
theorem zv:∀a b:List Int,HT.br a b=gS a b
|[],[]=>rfl
|[],_::_=>rfl
|_::_,[]=>rfl
|x::xs,y::ys=>by rw[HT.cW,gS,zv xs ys]
inductive TupI(h:Heap):b_->List Int->Prop where
 |mk {a:Addr} {items:Array b_} {ns:List Int}:Q7 h a items->On items.toList ns->TupI h (.ref a) ns
theorem K3:∀(xs ys:List Int),((a_ (min xs.length ys.length)).all (fun j=>decide (xs.getD j 0=ys.getD j 0))&&xs.length==ys.length)=decide (xs=ys):=by
 intro xs ys;rw[Ms,I_,MP,beq_iff_eq,decide_eq_true_iff];constructor
 .rintro⟨h1,h2⟩
  refine Rz h2 fun i a b=>?_;have:=h1 i (k_.mpr (by omega));simp only[decide_eq_true_eq]at this;simpa[u_,a,b]using this
 .rintro rfl
  exact⟨fun i _=>by simp,rfl⟩
theorem Hn{A:Mw}{s:g_}{p q:b_}{k l:List Int}(hp:TupI s.heap p k)(hq:TupI s.heap q l)(hu:A.units<NN):QY A s p q (decide (k=l)):=by cases hp with
|@mk a ia _ ha ia'=>cases hq with
 |@mk b ib _ hb ib'=>
   by_cases e:a=b
   .subst e;obtain⟨o,h1,h2,n,h3⟩:=ha;obtain⟨o',h1',h2',n',h3'⟩:=hb;rw[h1]at h1';cases h1';rw[h3]at h3';cases h3';have:k=l:=by have z1:=ia';have z2:=ib';exact(Ti z1).symm.trans (Ti z2)
    subst this;rw[decide_eq_true rfl];exact RM _
   .have l1:=ia'.length;have l2:=ib'.length;rw[NP]at l1 l2;have key:=SeqAt.RcAt.tuples (A:=A) (s:=s) (e:=fun j=>decide (k.getD j 0=l.getD j 0)) (show s.heap.IsTuple a ia from ha) (show s.heap.IsTuple b ib from hb) hu (fun j h1 h2=>by
     obtain⟨t,e1⟩:=R_ ia' j ia[j] (by rw[N_];simp[h1]);obtain⟨t',e2⟩:=R_ ib' j ib[j] (by rw[N_];simp[h2]);rw[e1,e2];have:=Ph (A:=A.in1) (s:=s) (k.getD j 0) t (l.getD j 0) t';have e:(k.getD j 0==l.getD j 0)=decide (k.getD j 0=l.getD j 0):=by rw[Ms];simp
     rw[e]at this;exact this)
    rw[l1,l2,K3]at key;exact SeqAt.EqAt.of_refs e key
inductive TupsI(h:Heap):List b_->List (List Int)->Prop where
 |nil:TupsI h [] []
 |cons {p:b_} {k:List Int} {ps:List b_} {ks:List (List Int)}:TupI h p k->TupsI h ps ks->TupsI h (p::ps) (k::ks)
theorem TupsI.length{h:Heap}:∀{ps:List b_}{ks:List (List Int)},TupsI h ps ks->ps.length=ks.length
|_,_,.nil=>rfl
|_,_,.cons _ t=>congrArg (· + 1) t.length
section
variable{prog:D_}{w:Mu}{A:Mw}{s:g_}
theorem EN{fin:Bool}{Q:Bool->g_->Prop}(hu:A.units<NN){ps qs:List b_}{ks ls:List (List Int)}{i:Nat}(h1:TupsI s.heap ps ks)(h2:TupsI s.heap qs ls)(h:Q (fU fin ks ls) s):W.KatLex prog w A false fin Q (ps.zip qs) i s:=by induction h1 generalizing qs ls i with
|nil=>cases h2 <;> exact W.kat_nil h
|@cons p k ps ks hp tp ih=>cases h2 with
 |nil=>exact W.kat_nil h
 |@cons q l qs ls hq tq=>
   refine W.kat_cons (Hn hp hq hu prog w _ _ ?_);by_cases e:k=l
   .rw[decide_eq_true e];have h':Q (fU fin ks ls) s:=by unfold fU at h;rw[if_pos e]at h;exact h
    exact W.kat_yes (ih tq h')
   .rw[decide_eq_false e];have h':Q (gS k l) s:=by unfold fU at h;rw[if_neg e]at h;exact h
    refine W.kat_no ?_;rw[R1];refine W.kat_one _ _ ?_;cases hp with
   |mk ha ia=>cases hq with
    |mk hb ib=>refine HT.eV ha hb ia ib hu ?_;rw[zv];exact h'
inductive TupR(h:Heap):b_->List (List Int)->Prop where
 |mk {a:Addr} {items:List b_} {ks:List (List Int)}:Q7 h a items.toArray->TupsI h items ks->ks≠[]->TupR h (.ref a) ks
theorem Hw{p q:b_}{ks ls:List (List Int)}{Q:Bool->g_->Prop}{E:b_->g_->Prop}(hp:TupR s.heap p ks)(hq:TupR s.heap q ls)(hu:A.units<NN)(h:Q (dg ks ls) s):z_ (E_ prog w) A (keyLt' (tuples' false) p q) Q E s:=by cases hp with
|@mk _ items _ ha ta hna=>cases hq with
 |@mk _ items_1 _ hb tb hnb=>
   obtain⟨o,h1,h2,n,h3⟩:=ha;obtain⟨o',h1',h2',n',h3'⟩:=hb;refine W.kat_lt h1 h3 h1' h3' ?_;have e:decide (items.toArray.size<items_1.toArray.size)=decide (ks.length<ls.length):=by rw[s_,s_,ta.length,tb.length]
   rw[e];exact EN hu (by simpa using ta) (by simpa using tb) h
end
def lY:List D->Option (List Int)
|[]=>some []
|.int i::ds=>(lY ds).map (i::·)
|_=>none
theorem Ib{K:W.Frag}{G:GH}{H:Hp}(gk:aI K G H){ds:List D}{xs:List V}{ns:List Int}(h:bx K G xs ds)(e:lY ds=some ns):xs=ns.map V.int:=by induction h generalizing ns with
|nil=>cases e;rfl
|@cons x d xs ds r t ih=>cases d with
 |int i=>have e':(lY ds).map (i::·)=some ns:=e;cases q:lY ds with
  |none=>rw[q]at e';cases e'
  |some ms=>rw[q]at e';cases e';rw[r.int gk,ih q];rfl
 |_=>cases e
def nP(K:W.Frag)(H:Hp)(x:V)(k:List Int):Prop:=∃b,x=.ref b/\bI K H b (k.map V.int)
def lz(K:W.Frag)(H:Hp)(x:V)(ks:List (List Int)):Prop:=∃b xs,x=.ref b/\bI K H b xs/\Paired (nP K H) xs ks/\ks≠[]
def iZ{α:Type}(d:α)(ys:List α)(kss:List (List (List Int))):List α:=(g6 ys.length fun i j=>dg (kss.getD i []) (kss.getD j [])).map fun i=>ys.getD i d
theorem bj.isS{P:D_}{w:Mu}{H:Hp}{h:Heap}{a:Addr}{o:HO}(x:bj P w H h a o):h.get? a≠none:=by
 have s:∀{u:Obj},h.get? a=some u->h.get? a≠none:=fun e z=>by rw[z]at e;cases e
 cases o with
|lst xs=>obtain⟨_,_,_,_,e⟩:=x;exact s e
|tup xs=>obtain⟨_,_,_,⟨_,e,_⟩,_⟩:=x;exact s e
|dK kvs=>obtain⟨_,_,_,_,o,_,_,e,_⟩:=x;exact s e
|dT kvs=>obtain⟨_,_,_,_,o,_,_,e,_⟩:=x;exact s e
|set S n=>obtain⟨o,_,_,_,e,_⟩:=x;exact s e
|ins C dx fs=>obtain⟨_,_,_,e,_⟩:=x;exact s e
|own y=>obtain⟨_,e⟩:=x;exact s e
|xd fs=>obtain⟨_,⟨_,_,_,e,_⟩,_⟩:=x;exact s e
|rng lo hi=>obtain⟨_,_,_,e⟩:=x;exact s e
|frz ob u=>obtain⟨e,_⟩:=x;exact s e
|tbl ps=>exact s (show h.get? a=some _ from x)
|met f y=>exact s (show h.get? a=some _ from x)
|ext φ=>obtain⟨_,⟨_,e⟩,_⟩:=x;exact s e
section
variable{X:Cx}{pz:List (Addr×Obj)}{σ:L2.St}{H:Hp}{s:g_}
theorem TupI.stay{h h':Heap}{L:Addr}{mm:Str->Option b_}(hL:h.Ns L mm)(k:∀b o,b≠L->h.get? b=some o->h'.get? b=some o){p:b_}{ns:List Int}(x:TupI h p ns):TupI h' p ns:=by cases x with
|mk ht hi=>
  obtain⟨o,h1,h2,n,h3⟩:=ht;refine .mk ⟨o,k _ _ ?_ h1,h2,n,h3⟩ hi
  rintro rfl
  obtain⟨o',es,ep,e,d,_⟩:=hL;rw[h1]at e;cases e;rw[h3]at d;cases d
theorem TupsI.stay{h h':Heap}{L:Addr}{mm:Str->Option b_}(hL:h.Ns L mm)(k:∀b o,b≠L->h.get? b=some o->h'.get? b=some o):∀{ps:List b_}{ks:List (List Int)},TupsI h ps ks->TupsI h' ps ks
|_,_,.nil=>.nil
|_,_,.cons x t=>.cons (x.stay hL k) (t.stay hL k)
theorem TupR.stay{h h':Heap}{L:Addr}{mm:Str->Option b_}(hL:h.Ns L mm)(k:∀b o,b≠L->h.get? b=some o->h'.get? b=some o){p:b_}{ks:List (List Int)}(x:TupR h p ks):TupR h' p ks:=by cases x with
|mk ht hi hn=>
  obtain⟨o,h1,h2,n,h3⟩:=ht;refine .mk ⟨o,k _ _ ?_ h1,h2,n,h3⟩ (hi.stay hL k) hn
  rintro rfl
  obtain⟨o',es,ep,e,d,_⟩:=hL;rw[h1]at e;cases e;rw[h3]at d;cases d
theorem Ho(I:Inv X pz σ H s){x:V}{k:List Int}{u:b_}(h:nP X.K H x k)(r:L2.am x u):TupI s.heap u k:=by obtain⟨b,rfl,hq⟩:=h;cases r;obtain⟨its,rv,pl,_⟩:=I.tuple hq;exact .mk pl (by simpa using KJ rv)
theorem IB(I:Inv X pz σ H s){xs:List V}{ks:List (List Int)}{us:List b_}(h:Paired (nP X.K H) xs ks)(v:ai xs us):TupsI s.heap us ks:=by induction h generalizing us with
|nil=>cases v;exact .nil
|cons h _ ih=>cases v with
 |cons r q=>exact .cons (Ho I h r) (ih q)
theorem Hq(I:Inv X pz σ H s){x:V}{ks:List (List Int)}{u:b_}(h:lz X.K H x ks)(r:L2.am x u):TupR s.heap u ks:=by obtain⟨b,xs,rfl,hq,hp,hn⟩:=h;cases r;obtain⟨its,rv,pl,_⟩:=I.tuple hq;exact .mk pl (IB I hp rv) hn
theorem BE{ys:List V}{us:List b_}(r:ai ys us):∀(ix:List Nat),(∀i∈ix,i<ys.length)->ai (ix.map fun i=>ys.getD i .non) (ix.map fun i=>us.getD i Value.none)
|[],_=>.nil
|i::ix,h=>by
  refine .cons ?_ (BE r ix fun j hj=>h j (c_ _ hj));have hi:=h i e_;obtain⟨u,h1,h2⟩:=r.get (i:=i) (x:=ys[i]) (n_ hi);have e1:ys.getD i .non=ys[i]:=by simp[u_,hi]
  have e2:us.getD i Value.none=u:=by rw[u_,h1];rfl
  show L2.am (ys.getD i .non) (us.getD i Value.none);rw[e1,e2];exact h2
theorem Inv.laidN{D:Addr}{ys:List V}{its:List b_}{c:Nat}{h':Heap}(I:Inv X pz σ H s)(hD:s.heap.get? D=none)(hDL:D≠X.env.locals)(k:∀b o,b≠X.env.locals->s.heap.get? b=some o->h'.get? b=some o)(hns:∀m,s.heap.Ns X.env.locals m->h'.Ns X.env.locals m)(ho:h'.get? D=some { cls:=.type "list",data:=.seq its.toArray c })(rv:ai ys its)(hz:ys.length<=sizeLine)(t':Nat):Inv X pz σ (upd H D (.lst ys)) { s with heap:=h',toks:=t' }:=by
 have hHD:H D=none:=by cases q:H D with
 |none=>rfl
 |some u=>exact absurd hD (bj.isS (I.hok D u q))
 have neD:∀b o,s.heap.get? b=some o->b≠D:=fun b o e z=>by rw[z,hD]at e;cases e
 have keepU:∀b u,H b=some u->upd H D (.lst ys) b=some u:=fun b u e=>by rw[aZ (jn e hHD)];exact e
 have trkL:∀b u,H b=some u->b≠X.env.locals:=fun b u e z=>by rw[z,I.free]at e;cases e
 refine I.step (g':=s.gens) (d':=s.drawn) (ch:=[]) (fun b hb=>absurd hb (by simp)) (fun b ob hL _ _ e _=>k b ob hL e) (fun b ob hL _ _ e _=>⟨ob.slots,k b ob hL e⟩) (fun b ob _ e n=>by rw[aZ (neD b ob e)];exact n)
  (fun b ob _ e=>?_) (fun b xs e=>keepU b _ e) (fun b ob u e=>keepU b _ e) (fun b ps e=>⟨#[],by rw[keepU b _ e];simp⟩) hns (fun b u e=>?_) I.bare
 .by_cases hb:b=X.env.locals
  .subst hb;obtain⟨m,hn,_⟩:=I.loc;obtain⟨o,_,_,ho',_⟩:=hns m hn;exact⟨o,ho'⟩
  .exact⟨ob,k b ob hb e⟩
 .by_cases hb:b=D
  .subst hb;rw[bT]at e;cases e;exact⟨hz,its,c,rv,ho⟩
  .rw[aZ hb]at e;refine(I.hok b u e).stay (fun cc v hc q=>k cc v ?_ q) (fun cc q=>keepU cc _ q) fun cc xs q=>keepU cc _ q;rcases hc with z|z
   .rw[z];exact trkL b u e
   .exact trkL cc _ z
theorem GK{h:Heap}{L:Addr}{m m':Str->Option b_}(a:h.Ns L m)(b:h.Ns L m'):m=m':=by obtain⟨o,es,ep,e,d,_,f⟩:=a;obtain⟨o',es',ep',e',d',_,f'⟩:=b;rw[e]at e';cases e';rw[d]at d';cases d';funext x;rw[<-f,<-f']
theorem AF{h:Heap}:∀{us:List b_}{kss:List (List (List Int))},Paired (fun u ks=>TupR h u ks) us kss->∃fs,W.KatTups h us fs/\fs.length=us.length/\∀f∈fs,∃b o,f=Value.ref b/\h.get? b=some o/\o.cls=.type "tuple"
|_,_,.nil=>⟨[],W.KatTups.nil,rfl,fun f hf=>nomatch hf⟩
|_,_,.cons x t=>by obtain⟨fs,h1,h2,h3⟩:=AF t;cases x with
 |@mk a items ks ht hi hn=>cases hi with
  |nil=>exact absurd rfl hn
  |@cons p k ps ks hp _=>
    obtain⟨o,e1,e2,n,e3⟩:=ht;refine⟨p::fs,W.KatTups.cons e1 e2 e3 (by simp) h1,by simp[h2],fun f hf=>?_⟩;rcases p_.mp hf with rfl|hf
    .cases hp with
    |mk hb _=>obtain⟨ob,q1,q2,_⟩:=hb;exact⟨_,ob,rfl,q1,q2⟩
    .exact h3 f hf
theorem IA(I:Inv X pz σ H s){ys:List V}{kss:List (List (List Int))}{us:List b_}(h:Paired (lz X.K H) ys kss)(v:ai ys us):Paired (fun u ks=>TupR s.heap u ks) us kss:=by induction h generalizing us with
|nil=>cases v;exact .nil
|cons h _ ih=>cases v with
 |cons r q=>exact .cons (Hq I h r) (ih q)
theorem sQ{n:Nat}{c:Nat->Nat->Bool}{i:Nat}(h:i∈g6 n c):i<n:=k_.mp ((sO n c).mem_iff.mp h)
theorem KO{k:Nat}(hr:Room k X.A):dw X (.builtin "sorted") (fun xs H Q=>∃p ys kss,xs=[.ref p]/\aU X.K H p ys/\Paired (lz X.K H) ys kss/\ys.length<64/\∀l,H l=none->Q (.ref l) (upd H l (.lst (iZ .non ys kss)))):=by
 intro pz s σ H xs us Q I r h;obtain⟨p,ys,kss,rfl,hq,hk,h64,q⟩:=h;obtain⟨u,rfl,rx⟩:=fJ r;cases rx;obtain⟨its,rv,pl,hz⟩:=I.list hq;have hl:=rv.length;have hkl:=Paired.length hk;by_cases h2:its.length<2
 .refine Ls pl.isList h2 fun h' c D kp hD ho=>?_;have hs:s.heap.get? D=none:=QB hD;refine⟨.ref D,_,Inv.laidN I hs (Ol (A_ I.lt hD)) (fun b o _ e=>kp b o e) (fun m ⟨o,es,ep,e,z⟩=>⟨o,es,ep,kp _ _ e,z⟩) ho rv (by omega) s.toks,rfl,?_⟩;have e:iZ V.non ys kss=ys:=by unfold iZ g6;rw[if_pos (by omega)];refine Rz (by simp) fun i a b=>?_;simp[u_,b]
  have:=q D (I.hok.fresh hD);rw[e]at this;exact this
 .obtain⟨mF,F⟩:=I.fr;have trs:=IA I hk rv;refine W.kat_sorted F (Jl (g:=X.base) (h:=s.heap) (L:=X.env.locals)) pl.isList (by omega) (by omega) fun D e1 h' F' N' hlt=>?_;have hDs:s.heap.get? D=none:=by cases z:s.heap.get? D with
  |none=>rfl
  |some o=>have zn:=(N' _ (e_)).2;exact absurd (hlt (D,o) (BK zn.1 zn.2 z)) (MX _)
  have keepN:∀{h2:Heap}{oD:Obj},Fr X.base X.env.locals h2 mF->News X.base X.env.locals h2 ((D,oD)::me X.base s.heap X.env.locals)->∀b o,b≠X.env.locals->s.heap.get? b=some o->h2.get? b=some o:=fun{h2 oD} F2 N2 b o hb e=>by cases z:X.base.get? b with
  |some o'=>have:=I.bk b o' z;rw[e]at this;cases this;exact F2.keep b o z
  |none=>exact(N2 (b,o) (c_ _ (BK hb z e))).1
  have k1:=keepN F' N';have trs':Paired (fun u ks=>TupR h' u ks) its kss:=Paired.mono (fun _ _ x=>x.stay F.ns k1) trs;obtain⟨fs,t1,t2,t3⟩:=AF trs';refine W.kat_kind (T:=.type "tuple") t1 (by omega) (fun v hv=>?_) (by decide) ?_
  .obtain⟨b,o,rfl,e1,e2⟩:=t3 v hv;rw[<-e2];exact(W.Looks.ld e1).andThen .now
  have hn:0<its.length:=by omega
  refine Jt (n:=its.length) (c:=fun i j=>dg (kss.getD i []) (kss.getD j [])) (fun i j C hi hj hC=>?_) (Bf hn) ?_
  .have gi:∀i,i<its.length->TupR h' (its.getD i Value.none) (kss.getD i []):=fun i hi=>by
    have hki:i<kss.length:=by omega
    obtain⟨a,ha,hx⟩:=Paired.get trs' (n_ hki);rw[u_,ha,u_,n_ hki];exact hx
   exact Hw (gi i hi) (gi j hj) (by have:=hr.un;show X.A.units+1+1<NN;omega) hC
  .refine W.KasFin.intro F' N' (.head fun q hq z=>?_) fun h3 c F3 N3=>?_
   .have:=hlt q hq;rw[z]at this;exact MX _ this
   .have oD:=(N3 _ e_)
    have hix:∀i∈g6 ys.length (fun i j=>dg (kss.getD i []) (kss.getD j [])),i<ys.length:=fun i hi=>sQ hi;have e0:(lS (fun i j=>dg (kss.getD i []) (kss.getD j [])) (W.kas_sort its.length)).toList=g6 ys.length (fun i j=>dg (kss.getD i []) (kss.getD j [])):=by unfold g6;rw[if_neg (by omega),hl]
    rw[e0]at oD;refine⟨.ref D,_,Inv.laidN (t':=_) (its:=(g6 ys.length fun i j=>dg (kss.getD i []) (kss.getD j [])).map fun i=>its.getD i Value.none) I hDs oD.2.1 (keepN F3 N3) (fun m hm=>by rw[GK hm F.ns];exact F3.ns) oD.1 (BE rv _ hix) ?_,rfl,q D ?_⟩
    .have:=(sO ys.length fun i j=>dg (kss.getD i []) (kss.getD j [])).length_eq;rw[l_,this,Oc];omega
    .cases z:H D with
    |none=>rfl
    |some u=>exact absurd hDs (bj.isS (I.hok D u z))
end
def i8:D->Option (List Int)
|.tup ds=>lY ds
|_=>none
def g7:List D->Option (List (List Int))
|[]=>some []
|d::ds=>(i8 d).bind fun k=>(g7 ds).map (k::·)
def om:D->Option (List (List Int))
|.tup (d::ds)=>g7 (d::ds)
|_=>none
def jf:List D->Option (List (List (List Int)))
|[]=>some []
|d::ds=>(om d).bind fun k=>(jf ds).map (k::·)
def oj:List D->Option D
|[.lst ds]=>(jf ds).bind fun kss=>if ds.length<64 then some (.lst (iZ .non ds kss))else none
|_=>none
section
variable{K:W.Frag}{G:GH}{H:Hp}
theorem Fg(gk:aI K G H){v:V}{d:D}{k:List Int}(r:RG K G v d)(e:i8 d=some k):nP K H v k:=by cases d with
|tup ds=>obtain⟨a,xs,rfl,s,rs⟩:=r.tup gk;have:=Ib gk rs e;subst this;exact⟨a,rfl,s⟩
|_=>cases e
theorem Hk(gk:aI K G H){ds:List D}{xs:List V}{ks:List (List Int)}(h:bx K G xs ds)(e:g7 ds=some ks):Paired (nP K H) xs ks:=by induction h generalizing ks with
|nil=>cases e;exact .nil
|@cons x d xs ds r t ih=>have e':(i8 d).bind (fun k=>(g7 ds).map (k::·))=some ks:=e;cases e1:i8 d with
 |none=>rw[e1]at e';cases e'
 |some k=>rw[e1]at e';cases e2:g7 ds with
  |none=>rw[e2]at e';cases e'
  |some ks'=>rw[e2]at e';cases e';exact .cons (Fg gk r e1) (ih e2)
theorem ID{d:D}{ds:List D}{ks:List (List Int)}(e:g7 (d::ds)=some ks):ks≠[]:=by have e':(i8 d).bind (fun k=>(g7 ds).map (k::·))=some ks:=e;cases e1:i8 d with
|none=>rw[e1]at e';cases e'
|some k=>rw[e1]at e';cases e2:g7 ds with
 |none=>rw[e2]at e';cases e'
 |some ks'=>rw[e2]at e';cases e';simp
theorem Fh(gk:aI K G H){v:V}{d:D}{ks:List (List Int)}(r:RG K G v d)(e:om d=some ks):lz K H v ks:=by cases d with
|tup ds=>cases ds with
 |nil=>cases e
 |cons d ds=>obtain⟨a,xs,rfl,s,rs⟩:=r.tup gk;exact⟨a,xs,rfl,s,Hk gk rs e,ID e⟩
|_=>cases e
theorem Hl(gk:aI K G H){ds:List D}{xs:List V}{ks:List (List (List Int))}(h:bx K G xs ds)(e:jf ds=some ks):Paired (lz K H) xs ks:=by induction h generalizing ks with
|nil=>cases e;exact .nil
|@cons x d xs ds r t ih=>have e':(om d).bind (fun k=>(jf ds).map (k::·))=some ks:=e;cases e1:om d with
 |none=>rw[e1]at e';cases e'
 |some k=>rw[e1]at e';cases e2:jf ds with
  |none=>rw[e2]at e';cases e'
  |some ks'=>rw[e2]at e';cases e';exact .cons (Fh gk r e1) (ih e2)
theorem AL{xs:List V}{ds:List D}(r:bx K G xs ds):∀(ix:List Nat),(∀i∈ix,i<ds.length)->bx K G (ix.map fun i=>xs.getD i .non) (ix.map fun i=>ds.getD i .non)
|[],_=>.nil
|i::ix,h=>by refine .cons ?_ (AL r ix fun j hj=>h j (c_ _ hj));have hi:=h i e_;obtain⟨u,h1,h2⟩:=Paired.get r (n_ hi);show RG K G (xs.getD i .non) (ds.getD i .non);rw[u_,h1,u_,n_ hi];exact h2
end
section
variable{X:Cx}{g:GE}{m:List Md}{a:Expr}{fl:aj->Res (List D)}{pos p:Pos}{k:Nat}
theorem Jm(hr:Room k X.A)(hg:Gl X "sorted")(hm:X.mg "sorted" = none)(ha:gw X g m [a] fl)(hs:j_ [a] X.env=(false,eval a X.env)::j_ [] X.env:=by rfl):SO X g m (.Call (.Name "sorted" p) [a] [] pos) (fC fl oj):=by
 refine xS (R:=fun xs H Q=>∃p ys kss,xs=[.ref p]/\aU X.K H p ys/\Paired (lz X.K H) ys kss/\ys.length<64/\∀l,H l=none->Q (.ref l) (upd H l (.lst (iZ .non ys kss)))) ?_ (k4 (KO hr) hg hm (by first|exact SR|rfl) ha (by decide) (by decide) hs rfl);intro G H vs ds d Q gk rs e q;unfold oj at e;split at e
 .rename_i zs;cases ek:jf zs with
 |none=>rw[ek]at e;cases e
 |some kss=>
   rw[ek]at e;have e':(if zs.length<64 then some (D.lst (iZ .non zs kss))else none)=some d:=e;by_cases h64:zs.length<64
   .rw[if_pos h64]at e';cases e';cases rs with
   |cons r1 t=>cases t;obtain⟨b,xs,rfl,s,r⟩:=r1.lst gk;have hl:=Paired.length r;refine⟨b,xs,kss,rfl,s,Hl gk r ek,by omega,fun l hl'=>q l G _ (Grow.new gk hl' _) hl' ⟨gk.isN hl',.lst bT ?_⟩⟩;unfold iZ;rw[hl];exact AL r _ fun i hi=>sQ hi
   .rw[if_neg h64]at e';cases e'
 .cases e
end
end DL
namespace DL
open PySem PyProof.Rows PySem.SeqAt PySem.MeetsSeq PySem.MeetsSeq2 PySem.MeetsSeq3 L2
section
open PySem.AutoSeq1 (wpAny_loadPart')
end
end DL
namespace DL
open PySem PyProof.Rows L2
section
variable{prog:D_}{w:Mu}{A:Mw}{E:b_->g_->Prop}{s:g_}
def kx(h:Heap)(u:b_)(ns:List Int):Prop:=∃a its,u=.ref a/\h.IsList a its/\On its.toList ns
end
end DL
namespace DL
open PySem PySem.Spec PyProof.Rows L2
section
variable{X:Cx}{pz:List (Addr×Obj)}{σ:L2.St}{H:Hp}{s:g_}
theorem kx.stay{h h':Heap}{L:Addr}{mm:Str->Option b_}(hL:h.Ns L mm)(k:∀b o,b≠L->h.get? b=some o->h'.get? b=some o){p:b_}{ns:List Int}(x:kx h p ns):kx h' p ns:=by
 obtain⟨a,its,rfl,⟨o,h1,h2,n,h3⟩,hi⟩:=x;refine⟨a,its,rfl,⟨o,k _ _ ?_ h1,h2,n,h3⟩,hi⟩
 rintro rfl
 obtain⟨o',es,ep,e,d,_⟩:=hL;rw[h1]at e;cases e;rw[h3]at d;cases d
end
section
variable{X:Cx}{pz:List (Addr×Obj)}{σ:L2.St}{H:Hp}{s:g_}
theorem Inv.keptN{h':Heap}(I:Inv X pz σ H s)(k:∀b o,b≠X.env.locals->s.heap.get? b=some o->h'.get? b=some o)(hns:∀m,s.heap.Ns X.env.locals m->h'.Ns X.env.locals m)(t':Nat):Inv X pz σ H { s with heap:=h',toks:=t' }:=by
 have trkL:∀b u,H b=some u->b≠X.env.locals:=fun b u e z=>by rw[z,I.free]at e;cases e
 refine I.step (g':=s.gens) (d':=s.drawn) (ch:=[]) (fun b hb=>absurd hb (by simp)) (fun b ob hL _ _ e _=>k b ob hL e) (fun b ob hL _ _ e _=>⟨ob.slots,k b ob hL e⟩) (fun b ob _ e n=>n)
  (fun b ob _ e=>?_) (fun b xs e=>e) (fun b ob u e=>e) (fun b ps e=>⟨#[],by rw[e];simp⟩) hns (fun b u e=>?_) I.bare
 .by_cases hb:b=X.env.locals
  .subst hb;obtain⟨m,hn,_⟩:=I.loc;obtain⟨o,_,_,ho',_⟩:=hns m hn;exact⟨o,ho'⟩
  .exact⟨ob,k b ob hb e⟩
 .refine(I.hok b u e).stay (fun cc v hc q=>k cc v ?_ q) (fun cc q=>q) fun cc xs q=>q;rcases hc with z|z
  .rw[z];exact trkL b u e
  .exact trkL cc _ z
end
section
variable{X:Cx}{g:GE}{m:List Md}{e a b:Expr}{es:List Expr}{fl:aj->Res (List D)}{fa fb:FE}{pos p:Pos}
def yz(K:W.Frag):R2:=fun x y H Q=>∃a b ys,x=.ref a/\y=.ref b/\bI K H a []/\bI K H b ys/\Q (.ref b) H
theorem Gb:aR X (NQ .Add) (yz X.K):=by
 intro pz s σ H x y v u Q I rx ry h;obtain⟨a,b,ys,rfl,rfl,ha,hb,q⟩:=h;cases rx;cases ry;obtain⟨its,r1,p1,_⟩:=I.tuple ha;obtain⟨its2,r2,p2,_⟩:=I.tuple hb;cases r1;obtain⟨⟨cls,dd,data,sl⟩,ho,hc,n,hd⟩:=id p1;obtain⟨⟨cls2,dd2,data2,sl2⟩,ho2,hc2,n2,hd2⟩:=id p2;simp only at hc hd hc2 hd2;subst hc hd hc2 hd2;exact Qd ⟨_,ho,rfl⟩ ⟨_,ho2,rfl⟩ PY QS OL OG (Ow _ _)
  (tuple_addW0 a b _ _ n n2 dd dd2 sl sl2 rfl) ⟨ho,ho2,⟨.ref b,H,I,rfl,q⟩⟩
def addE:D->D->Option D
|.tup [],.tup b=>some (.tup b)
|a,b=>addA a b
theorem Fw{K:W.Frag}:cH K (fun x y H Q=>yz K x y H Q\/((∃i j,x=.int i/\y=.int j/\Q (.int (i+j)) H)\/(∃i j,x=.str i/\y=.str j/\i.length+j.length<=sizeLine/\Q (.str (i++j)) H)\/qp K x y H Q\/qq K x y H Q)) addE:=by
 intro G H v1 v2 d1 d2 d Q gk r1 r2 e q;unfold addE at e;split at e
 .cases e;rcases r1 with r1|⟨a',_,oo⟩
  .rcases r2 with r2|⟨a',_,oo⟩
   .obtain⟨a,xs,rfl,s1,t1⟩:=r1.tup gk;obtain⟨b,ys,rfl,s2,t2⟩:=r2.tup gk;cases t1;exact .inl ⟨a,b,ys,rfl,rfl,s1,s2,q _ G H (Grow.refl gk) r2⟩
   .cases oo.ob
  .cases oo.ob
 .exact .inr (zq G H v1 v2 d1 d2 d Q gk r1 r2 e q)
theorem zh(ha:SB X g m a fa)(hb:SB X g m b fb):SE X g m (.BinOp a .Add b pos) (f2 fa fb addE):=i0 (aR.or Gb (aR.or yS (aR.or BO (aR.or zA zB)))) Fw ha hb
end
end DL
namespace DL
open PySem PyProof.Rows L2
section
open PySem.AutoSeq1 (wpAny_loadPart')
end
end DL
namespace DL
open PySem PyProof.Rows PySem.W
abbrev at0(p:Array Nat)(i:Nat):Nat:=p.getD i 0
section
variable{n:Nat}{c:Nat->Nat->Bool}(as:∀i j,c i j=true->c j i=false)(tr:∀i j k,c j i=false->c k j=false->c k i=false)
def Le(c:Nat->Nat->Bool)(i j:Nat):Prop:=c j i=false
def Dn(c:Nat->Nat->Bool)(p:Array Nat)(k:Nat):Prop:=∀i,i+1<k->Le c (at0 p (i+1)) (at0 p i)
def jv(c:Nat->Nat->Bool)(i j:Nat):Prop:=Le c i j/\Le c j i
include tr in
theorem jv.trans{i j k:Nat}(h1:jv c i j)(h2:jv c j k):jv c i k:=⟨tr _ _ _ h1.1 h2.1,tr _ _ _ h2.2 h1.2⟩
theorem jv.symm{i j:Nat}(h:jv c i j):jv c j i:=⟨h.2,h.1⟩
include as tr in
include tr in
theorem Dn.eqv{p p':Array Nat}{k:Nat}(h:Dn c p k)(e:∀i,jv c (at0 p' i) (at0 p i)):Dn c p' k:=fun i hi=>tr _ _ _ (e (i+1)).1 (tr _ _ _ (h i hi) (e i).2)
include as tr in
include as tr in
include as tr in
include as tr in
include as tr in
include as tr in
include as tr in
include as tr in
include as tr in
end
end DL
section
namespace DL
end DL
end
namespace DL
open PySem PySem.Spec PyProof.Rows L2
section
variable{X:Cx}{pz:List (Addr×Obj)}{σ:L2.St}{H:Hp}{s:g_}
theorem IH(bs:List Bool):((a_ bs.length).all fun i=>bs.getD i true)=bs.all id:=by
 rw[Ms,MP,MP];constructor
 .intro h b hb;obtain⟨i,hi,rfl⟩:=List.getElem_of_mem hb;have:=h i (k_.mpr hi);simpa[u_,hi]using this
 .intro h i hi;have hi:=k_.mp hi;have:=h bs[i] (Nr _);simpa[u_,hi]using this
theorem KH(hc:X.calm=true)(I:Inv X pz σ H s){p:Addr}{bs:List Bool}(hq:aU X.K H p (bs.map V.bl)){A:Mw}(hA:A.handled=none){E:b_->g_->Prop}{Q:b_->g_->Prop}(h:∀I fp wr n P St tr it s₂,it=Value.ref I->Walks X.prog X.w A I fp wr n P St->St 0 s₂.heap->TruthOf X.prog X.w A P tr->n=bs.length->(∀i,tr i=bs.getD i true) ->(∀(h':Heap)(tk:Nat),(∀(b:Addr)(o:Obj),¬b∈wr->s₂.heap.get? b=some o->h'.get? b=some o)->Inv X pz σ H { heap:=h',gens:=s₂.gens,drawn:=s₂.drawn,toks:=tk,os:=s₂.os })->Q it s₂):z_ (E_ X.prog X.w) A (pyIter (.ref p)) Q E s:=by
 obtain⟨its,rv,pl,hz⟩:=I.list hq;have hl:=rv.length;rw[l_]at hl;refine PySem.Flt.iter_list_ pl.isList fun s₂ e2 hi hlt hne=>?_;refine h s.heap.objs.size [s.heap.objs.size,p] [s.heap.objs.size] its.toArray.size _ _ (fun i=>bs.getD i true) _ s₂ rfl (Walks.list hA _ p hne its.toArray) hi ?_ (by rw[s_,hl]) (fun i=>rfl) fun h' tk k=>?_
 .intro i v s' Q' E' hv hq';have hv':its[i]? = some v:=by simpa using hv
  have hi:i<its.length:=(h_.mp hv').1;have hki:i<(bs.map V.bl).length:=by rw[l_];omega
  obtain⟨u,h1,h3⟩:=rv.get (i:=i) (x:=(bs.map V.bl)[i]) (n_ hki);rw[hv']at h1;cases h1;rw[List.getElem_map]at h3;have h3':v=Value.bool bs[i]:=h3;subst h3';have e:bs.getD i true=bs[i]:=by
   have hb:i<bs.length:=by omega
   simp[u_,hb]
  have hq2:Q' (bs.getD i true) s':=hq';rw[e]at hq2;exact r_ hq2
 .subst e2;have ne:∀b o,s.heap.get? b=some o->¬ b∈[s.heap.objs.size]:=fun b o e z=>by have:=MG.mp z;subst this;exact absurd (t_ e) (MX _)
  exact Inv.keptN I (fun b o _ e=>k b o (ne b o e) (m_ _ e)) (fun m ⟨o,es,ep,e,z⟩=>⟨o,es,ep,k _ _ (ne _ _ e) (m_ _ e),z⟩) tk
theorem Ig(hc:X.calm=true):dw X (.builtin "all") (fun xs H Q=>∃(p:Addr)(bs:List Bool),xs=[.ref p]/\aU X.K H p (bs.map V.bl)/\Q (.bl (bs.all id)) H):=by intro pz s σ H xs us Q I r h;obtain⟨p,bs,rfl,hq,q⟩:=h;obtain⟨u,rfl,rx⟩:=fJ r;cases rx;refine call_all_walk (KH hc I hq (show X.A.in1.handled=none from I.ok.hd hc) fun J fp wr n P St tr it s₂ e1 e2 e3 e4 e5 e6 e7=>⟨J,fp,wr,n,P,St,tr,e1,e2,e3,e4,fun h' tk k=>?_⟩);have et:tr=fun i=>bs.getD i true:=funext e6;rw[e5,et,IH];exact⟨.bl (bs.all id),H,e7 h' tk k,rfl,q⟩
end
def im:List D->Option (List Bool)
|[]=>some []
|.bl b::ds=>(im ds).map (b::·)
|_=>none
theorem Fy{K:W.Frag}{G:GH}{H:Hp}(gk:aI K G H){ds:List D}{xs:List V}{bs:List Bool}(h:bx K G xs ds)(e:im ds=some bs):xs=bs.map V.bl:=by induction h generalizing bs with
|nil=>cases e;rfl
|@cons x d xs ds r t ih=>cases d with
 |bl b=>have e':(im ds).map (b::·)=some bs:=e;cases e1:im ds with
  |none=>rw[e1]at e';cases e'
  |some bs'=>rw[e1]at e';cases e';rw[ih e1,G_,(RG.rb (H:=H) r).bl gk]
 |_=>cases e
def allD:List D->Option D
|[.lst ds]=>(im ds).map fun bs=>.bl (bs.all id)
|_=>none
theorem Dx{K:W.Frag}:lE K (fun xs H Q=>∃(p:Addr)(bs:List Bool),xs=[.ref p]/\aU K H p (bs.map V.bl)/\Q (.bl (bs.all id)) H) allD:=by
 intro G H vs ds d Q gk rs e q;unfold allD at e;split at e
 .rename_i zs;cases ek:im zs with
 |none=>rw[ek]at e;cases e
 |some bs=>rw[ek]at e;cases e;cases rs with
  |cons r1 t=>cases t;obtain⟨b,xs,rfl,s,r⟩:=r1.lst gk;have ex:=Fy gk r ek;subst ex;exact⟨b,bs,rfl,s,q _ G H (Grow.refl gk) (.scl (.bl _))⟩
 .cases e
section
variable{X:Cx}{g:GE}{m:List Md}{e:Expr}{es:List Expr}{fl:aj->Res (List D)}{pos p:Pos}
theorem DK(hc:X.calm=true)(hg:Gl X "all")(hm:X.mg "all" = none)(ha:gw X g m (e::es) fl)(he:j_ (e::es) X.env=(false,eval e X.env)::j_ es X.env:=by rfl)(hpl:(backTo pos (j_ es X.env)).any (·.1)=false:=by rfl):SE X g m (.Call (.Name "all" p) (e::es) [] pos) (fC fl allD):=iF Dx (k4 (Ig hc) hg hm PyProof.Rows.boot_all ha (by decide) (by decide) he hpl)
end
def iV(h0 H:Hp):Prop:=∀a o,h0 a=some o->H a=some o
structure YieldsB(K:W.Frag)(h0:Hp)(J:It)(ds:List D)(G0:GH):Prop where
 go:∀G H (i:Nat),aM G0 G->aI K G H->iV h0 H->i<ds.length->J.go i H
 yld:∀G H (i:Nat) x H' d,aM G0 G->aI K G H->iV h0 H->J.yld i H x H'->ds[i]? = some d->∃G',Grow K G H G' H'/\RG K G' x d
 stop:∀G H,aM G0 G->aI K G H->iV h0 H->J.stop ds.length H
theorem Yields.toH{K:W.Frag}{h0:Hp}{J:It}{ds:List D}{G0:GH}(y:Yields K J ds G0):YieldsB K h0 J ds G0:=⟨fun G H i w gk _ hi=>y.go G H i w gk hi,fun G H i x H' d w gk _ q e=>y.yld G H i x H' d w gk q e,fun G H w gk _=>y.stop G H w gk⟩
def Me(X:Cx)(g:GE)(m:List Md)(f:FI):TI:=fun σ H R=>∃r G,SI X g m r G σ H/\fin (f r) (fun ds=>∀J G' H',Grow X.K G H G' H'->YieldsB X.K g.h0 J ds G'->R J H') (XW X σ G H)
def iO(X:Cx)(g:GE)(m:List Md)(tg iter:Expr)(f:FI):Prop:=PI X tg iter (Me X g m f)
def Mg(X:Cx)(g:GE)(m:List Md)(f:FE):TE:=fun σ H Q=>∃r G,SI X g m r G σ H/\fin (f r) (fun d=>∀v G' H',Grow X.K G H G' H'->Bw X.K g.h0 G' H' v d->Q v H') (XW X σ G H)
def wK(X:Cx)(g:GE)(m:List Md)(e:Expr)(f:FE):Prop:=PE X e (Mg X g m f)
section
variable{X:Cx}{g:GE}{m m' mb:List Md}{tg e a iter:Expr}{f:FE}{pos p pos2:Pos}{ro:Bool}{sts:List Stmt}{s1:FS}{elts:List Expr}{kk:Nat}
theorem gu.toH{fi:FI}(h:gu X g m tg iter fi):iO X g m tg iter fi:=PI.imp h fun σ H R ⟨r,G,si,q⟩=>⟨r,G,si,aW q fun ds k J G' H' w y=>k J G' H' w y.toH⟩
theorem vD(i:Nat){x:Str}(hm:m[i]? = some .bw:=by rfl)(hN:X.N[i]? = some x:=by rfl)(hv:fD X.env.scope x:=by first|exact Or.inl rfl|exact Or.inr (Or.inl rfl)|exact Or.inr (Or.inr rfl))(hd:(x==("__debug__" : Str))=false:=by decide)(hcd:(x==("__classdict__" : Str))=false:=by decide):wK X g m (.Name x pos) fun r=>dI r i:=by refine PE.imp (kO hN hv hd hcd) fun σ H Q ⟨r,G,si,q⟩=>?_;obtain⟨d,e,k⟩:=r6 q;obtain⟨v,e1,e2⟩:=si.bw i d e hm;exact⟨v,e1,k _ G H (Grow.refl si.gok) e2⟩
theorem Am{K:W.Frag}{h0:Hp}{G0 G:GH}{H0 H:Hp}{a:Addr}{ds:List D}(o:Own K G0 H0 a (.lst ds))(h:h0 a≠none)(o0:iV h0 H0)(le:aM G0 G)(o1:iV h0 H):∃xs,aU K H a xs/\bx K G xs ds:=by cases e:h0 a with
|none=>exact absurd e h
|some u=>have h1:=o0 a u e;have h2:=o1 a u e;cases o.ob with
 |lst r s=>rw[h1]at r;cases r;exact⟨_,aU.of h2,bx.mono s le⟩
theorem Fp{K:W.Frag}{h0:Hp}{ds:List D}{G0:GH}{a:Addr}(h:∀G H,aM G0 G->aI K G H->iV h0 H->∃xs,aU K H a xs/\bx K G xs ds):YieldsB K h0 (nT K a) ds G0:=by
 refine⟨fun G H i w gk o hi=>?_,fun G H i x H' d w gk o y e=>?_,fun G H w gk o=>?_⟩
 .obtain⟨xs,s,r⟩:=h G H w gk o;have hl:=Paired.length r;exact⟨xs,xs[i],s,n_ (by omega)⟩
 .obtain⟨xs,s,r⟩:=h G H w gk o;obtain⟨rfl,y⟩:=y;obtain⟨v,e1,rv⟩:=Paired.get r e;have:=y xs s;rw[e1]at this;cases this;exact⟨G,Grow.refl gk,rv⟩
 .obtain⟨xs,s,r⟩:=h G H w gk o;exact⟨xs,s,OK (Paired.length r)⟩
theorem SI.oldIn{r:aj}{G:GH}{st:L2.St}{H:Hp}(s:SI X g m r G st H):iV g.h0 H:=s.old
theorem yL(h:wK X g m e f):iO X g m tg e (aV b9 f):=by
 refine PI.imp (rc h) fun σ H R ⟨r,G,si,q⟩=>⟨r,G,si,aW (aY q) fun d q v G' H' w rv=>?_⟩
 obtain⟨ds,e,q⟩:=cb q;cases d with
|lst ds'=>
  cases e;rcases rv with rv|⟨a,rfl,o,ho⟩
  .obtain⟨a,xs,rfl,s,rs⟩:=rv.lst w.ok;exact .inl ⟨a,rfl,⟨xs,s⟩,q _ G' H' w (rV rv).toH⟩
  .cases o.ob with
  |lst r s=>exact .inl ⟨a,rfl,⟨_,aU.of r⟩,q _ G' H' w (Fp fun G2 H2 le _ o2=>Am o ho (si.grow w).oldIn le o2)⟩
|tup ds'=>
  cases e;rcases rv with rv|⟨a,rfl,o,ho⟩
  .obtain⟨a,xs,rfl,s,rs⟩:=rv.tup w.ok;exact .inr ⟨a,rfl,⟨xs,s⟩,q _ G' H' w (ra rv).toH⟩
  .cases o.ob
|_=>cases e
theorem rT{K:W.Frag}{h0:Hp}{ds:List D}{G0:GH}{sq:Hp->List V->Prop}(h:∀G H,aM G0 G->aI K G H->iV h0 H->∃xs,sq H xs/\bx K G xs ds):YieldsB K h0 (ky sq) (cY 0 ds) G0:=by
 refine⟨fun G H i w gk o hi=>?_,fun G H i x H' d w gk o y e=>?_,fun G H w gk o=>?_⟩
 .obtain⟨xs,s,r⟩:=h G H w gk o;rw[rY]at hi;have hl:=Paired.length r;exact⟨xs,xs[i],s,n_ (by omega)⟩
 .obtain⟨xs,s,r⟩:=h G H w gk o;obtain⟨p,v,hp,rfl,rfl,hv⟩:=y;rw[Av]at e;cases ed:ds[i]? with
 |none=>rw[ed]at e;cases e
 |some d0=>rw[ed]at e;simp only[O2,Q8,Qr]at e;subst e;obtain⟨v',e1,rv⟩:=Paired.get r ed;have:=hv xs s;rw[e1]at this;cases this;exact⟨_,Grow.newF gk hp (.tup (.inl bT) (.cons (.scl (.int _)) (.cons rv .nil))),.ref dc⟩
 .obtain⟨xs,s,r⟩:=h G H w gk o;rw[rY];exact⟨xs,s,Paired.length r⟩
theorem Gw(hg:Gl X "enumerate")(hm:X.mg "enumerate" = none)(he:wK X g m e f)(hs:j_ [e] X.env=(false,eval e X.env)::j_ [] X.env:=by rfl):iO X g m (.Tuple elts kk pos2) (.Call (.Name "enumerate" p) [e] [] pos) (nK f):=by
 refine PI.imp (Gm hg hm he hs) fun σ H R ⟨r,G,si,q⟩=>⟨r,G,si,aW (aY q) fun d q v G' H' w rv=>?_⟩
 obtain⟨ds,e,q⟩:=cb (aY q);cases d with
|lst ds'=>
  cases e;rcases rv with rv|⟨a,rfl,o,ho⟩
  .obtain⟨a,xs,rfl,s,rs⟩:=rv.lst w.ok;refine .inl ⟨a,rfl,⟨xs,s⟩,q _ G' H' w (rT fun G H le gk _=>?_)⟩;obtain⟨b,ys,e,s',r'⟩:=(rv.mono le).lst gk;cases e;exact⟨ys,s',r'⟩
  .cases o.ob with
  |lst r s=>exact .inl ⟨a,rfl,⟨_,aU.of r⟩,q _ G' H' w (rT fun G2 H2 le _ o2=>Am o ho (si.grow w).oldIn le o2)⟩
|tup ds'=>
  cases e;rcases rv with rv|⟨a,rfl,o,ho⟩
  .obtain⟨a,xs,rfl,s,rs⟩:=rv.tup w.ok;refine .inr ⟨a,rfl,⟨xs,s⟩,q _ G' H' w (rT fun G H le gk _=>?_)⟩;obtain⟨b,ys,e,s',r'⟩:=(rv.mono le).tup gk;cases e;exact⟨ys,s',r'⟩
  .cases o.ob
|_=>cases e
theorem q8(hp:PV (E_ X.prog X.w) X.A X.env X.xe)(hc:X.calm=true){ft:FT}{fi:FI}(hi:iO X g m tg iter fi)(hg:SG X g m tg ft m)(hb:cZ X g ro m m sts s1 m)(hs:∀x,NE iter X.env x=pure x:=by intro _;rfl):SS X g ro mb m (.For tg iter sts [] pos) (db m fi ft s1) m:=by
 refine⟨rfl,PS.imp (rf hp hc hi hg.2 hb.2 hs) fun D σ H ⟨r,G,si,q⟩=>⟨r,G,si,aW (fw si rfl q) fun ds q J G0 H0 w0 Y=>?_⟩⟩;refine⟨fun i n σ H=>∃r G,SI X g m r G σ H/\aM G0 G/\i<=ds.length/\n=ds.length-i/\bG X g ro m mb G D (aF ft s1 (ds.drop i) r),⟨ds.length,r,G0,si.grow w0,aM.refl G0,MD _,rfl,bG.gle q w0.ge⟩,?_⟩
 rintro i n σ1 H1 ⟨r1,G1,si1,le1,hi,rfl,q1⟩
 by_cases hlt:i<ds.length
 .have hd:ds.drop i=ds[i]::ds.drop (i+1):=Ny hlt;rw[hd]at q1;unfold aF at q1;refine .inr ⟨Y.go G1 H1 i le1 si1.gok si1.oldIn hlt,fun σ' H'=>∃r G,SI X g m r G σ' H'/\aM G0 G/\bG X g ro m mb G D (aF ft s1 (ds.drop (i+1)) r),fun σ' H' ⟨r',G',si',le',q'⟩=>⟨ds.length-(i+1),by omega,r',G',si',le',hlt,rfl,q'⟩,fun x H' y=>?_⟩;obtain⟨G',w',rv⟩:=Y.yld G1 H1 i x H' ds[i] le1 si1.gok si1.oldIn y (n_ hlt);have le':aM G0 G':=le1.trans w'.ge;cases eft:ft ds[i] r1 with
 |none=>simp only[eft]at q1;exact q1.elim
 |some r2=>simp only[eft]at q1;refine⟨r1,G',ds[i],si1.grow w',rv,r2,eft,fun σ2 si2=>⟨r2,G',si2,?_⟩⟩;cases eb:s1 r2 with
  |nx r'=>simp only[eb]at q1;exact fun σ3 G3 H3 le3 si3=>⟨r',G3,si3,le'.trans le3,bG.gle q1 (aM.trans w'.ge le3)⟩
  |ct r'=>simp only[eb]at q1;exact fun σ3 G3 H3 le3 si3=>⟨r',G3,si3,le'.trans le3,bG.gle q1 (aM.trans w'.ge le3)⟩
  |bk r'=>simp only[eb]at q1;exact fun σ3 G3 H3 le3 si3=>q1 σ3 G3 H3 (aM.trans w'.ge le3) si3
  |rt d=>simp only[eb]at q1;exact q1
  |exc x r'=>simp only[eb]at q1;exact fun pz e s' σ3 G3 H3 le3=>q1 pz e s' σ3 G3 H3 (aM.trans w'.ge le3)
  |stuck=>simp only[eb]at q1;exact q1
 .have e:i=ds.length:=by omega
  subst e;rw[OU]at q1;exact .inl ⟨Y.stop G1 H1 le1 si1.gok si1.oldIn,q1 σ1 G1 H1 (aM.refl _) si1⟩
end
section
open HT (sIx)
section
variable{prog:D_}{w:Mu}{A:Mw}{E:b_->g_->Prop}{s:g_}
theorem Lh{t sl:Addr}{items:Array b_}{vl vu:b_}{lo hi:Option Int}{Q:b_->g_->Prop}(ht:Q7 s.heap t items)(hs:s.heap.IsSliceOf sl vl vu .none)(pl:Qe vl lo)(pu:Qe vu hi)(hw:sIx items.size 0 lo=0/\sIx items.size items.size hi=items.size)(h:Q (.ref t) s):z_ (E_ prog w) A (Qf (.ref t) (.ref sl)) Q E s:=by
 obtain⟨os,hos,hcs,hds⟩:=id hs;have hTs:s.TypeIs (.ref sl) "slice" := ⟨os,hos,hcs⟩
 unfold Qf
 try with_reducible refine Nc ?_
 first|refine f_ (r_ ?_)|skip
 refine f_ (Re ht.typeIs (by decide) (f_ (NR (name:=F_ "__getitem__") ht.typeIs MJ (Oo MJ ht.typeIs Rm ?_ (Ru _ _)))));show z_ _ _ (Pj (.ref t) >>= _) _ _ s;refine f_ (Sa ht (f_ (Rf hTs ?_)));rw[if_pos (by decide)];refine f_ (HT.bn hs pl pu ?_);rw[hw.1,hw.2];show z_ _ _ (if (((0:Nat):Int)==0&&(1:Int)==1&&(items.size-0)==items.size)=true then _ else _) _ _ s;rw[if_pos (by simp)];show z_ _ _ (Pn (.ref t) >>= _) _ _ s;unfold Pn;refine f_ (f_ (Rf ht.typeIs (r_ ?_)));rw[if_pos (by decide)];refine f_ (R9 ?_);show z_ _ _ (ret (.ref t)) _ _ s;exact r_ ⟨_,rfl,r_ h⟩
end
def vT(K:W.Frag):V->Option Int->Option Int->Hp->VK->Prop:=fun x lo hi H Q=>∃a xs,x=.ref a/\bI K H a xs/\(sIx xs.length 0 lo=0/\sIx xs.length xs.length hi=xs.length)/\Q (.ref a) H
theorem Iv{X:Cx}:gW X (vT X.K):=by
 intro pz s σ H x v vl vu lo hi sl Q I rx hs pl pu h;obtain⟨a,xs,rfl,hx,hw,q⟩:=h;cases rx;obtain⟨its,r,ht,hz⟩:=I.tuple hx;have hlen:its.toArray.size=xs.length:=by rw[s_];exact r.length.symm
 exact⟨"tuple",_,MJ.lookup,ht.typeIs,Lh ht hs pl pu (by rw[hlen];exact hw) ⟨.ref a,H,I,rfl,q⟩⟩
def qg(d:D)(lo hi:Option Int):Option D:=match d with
|.tup ds=>some (.tup (b3 ds lo hi))
|.lst ds=>some (.lst (b3 ds lo hi))
|_=>none
def gT(fa:FE)(fl fh:FP):FE:=fun r=>(fa r).bind fun d=>(fl r).bind fun lo=>(fh r).bind fun hi=>bK (qg d lo hi)
section
variable{X:Cx}{g:GE}{m:List Md}{e:Expr}{f fa:FE}{pos p2:Pos}
theorem He{R:V->Option Int->Option Int->Hp->Prop}{fl fh:FP}{r:aj}{G:GH}{σ:L2.St}{H:Hp}{q:D->Prop}(si:SI X g m r G σ H)(h:fin (gT fa fl fh r) q (XW X σ G H))(hk:∀d lo hi v G2 H2 d',Grow X.K G H G2 H2->RB X.K G2 H2 v d->qg d lo hi=some d'->q d'->R v lo hi H2):tB X g m fa σ H fun x H1=>tP X g m fl σ H1 fun l H2=>tP X g m fh σ H2 fun u H3=>R x l u H3:=by refine⟨r,G,si,aW (aY h) fun d h1 v G1 H1 w1 r1=>⟨r,G1,si.grow w1,d8 (aY h1) w1 fun lo h2 G2 H2 w2=>⟨r,G2,(si.grow w1).grow w2,?_⟩⟩⟩;refine d8 (aY h2) (w1.trans w2) fun hi h3 G3 H3 w3=>?_;obtain⟨d',e,h4⟩:=cb h3;exact hk d lo hi v G3 H3 d' ((w1.trans w2).trans w3) ((r1.mono w2).mono w3) e h4
theorem JD{α:Type}{ds:List α}{lo hi:Option Int}(h:sIx ds.length 0 lo=0/\sIx ds.length ds.length hi=ds.length):b3 ds lo hi=ds:=by unfold b3;rw[h.1,h.2];simp
theorem DQ{lo hi:Option Expr}{fl fh:FP}(he:SB X g m e f)(hl:lA X g m lo fl)(hu:lA X g m hi fh):SE X g m (.Subscript e (.Slice lo hi none p2) pos) (gT f fl fh):=by refine PE.imp (A2 (gW.or Iv (gW.or zX y6)) he hl hu) fun σ H Q ⟨r,G,si,q⟩=>?_;refine He si q fun d lo hi v G2 H2 d' w r1 e q2=>?_;cases d with
|tup ds=>
  cases e;rcases r1 with r1|⟨a',_,oo⟩
  .obtain⟨a,xs,rfl,s,r⟩:=r1.tup w.ok;by_cases hw:sIx ds.length 0 lo=0/\sIx ds.length ds.length hi=ds.length
   .refine .inl ⟨a,xs,rfl,s,by rw[Paired.length r];exact hw,?_⟩;rw[JD hw]at q2;exact q2 _ G2 H2 w r1
   .rw[<-Paired.length r]at hw;refine .inr (.inr ⟨a,xs,rfl,s,hw,fun p hp=>?_⟩);exact q2 _ _ _ (w.trans (Grow.newF w.ok hp (.tup (.inl bT) (nV r lo hi)))) (.ref dc)
  .cases oo.ob
|lst ds=>cases e;obtain⟨a,xs,rfl,s,r⟩:=r1.lst w.ok;exact .inr (.inl ⟨a,xs,rfl,s,fun p hp=>q2 _ _ _ (w.trans (Grow.newF w.ok hp (.lst (.inl bT) (nV r lo hi)))) (.ref dc)⟩)
|_=>cases e
end
end
def kD:Nat:=2^2000
def n5(i j:Int):Prop:=i.natAbs<kD/\j.natAbs<kD
def n4(_i j:Int):Prop:=0<j/\j.natAbs<kD
instance decMulW(i j:Int):Decidable (n5 i j):=by unfold n5;infer_instance
instance decDivW(i j:Int):Decidable (n4 i j):=by unfold n4;infer_instance
theorem zr{i:Int}(h:i.natAbs<kD):Ou i<=2000:=by
 unfold Ou;split
 .exact MD _
 .rename_i z;have h0:i.natAbs≠0:=fun e=>z (by rw[Int.natAbs_eq_zero.mp e];rfl);have:=(Tr h0).mpr h;omega
theorem n5.ok{i j:Int}(h:n5 i j):IntMulOk i j:=by
 have h1:=zr h.1;have h2:=zr h.2;unfold IntMulOk;have e:Qx ((Ou i:Int)+(Ou j:Int))=false:=by
  unfold Qx;have:((bitsLine:Nat):Int)=134217728:=by decide+kernel
  exact decide_eq_false (by omega)
 rw[e];simp
theorem Jr:aR X (NQ .FloorDiv) (rI n4 fun i j=>.int (i/j)):=nB fun i j _ _ _ _ _ hc q=>by
 have h1:(0:Int)<j:=hc.1;have h2:j.natAbs<kD:=hc.2;have h0:j.natAbs≠0:=by omega
 have:=(Tr h0).mpr h2;exact floordiv_int (by omega) (by rw[Pf i (by omega)];exact q) (.inl (PyProof.noPylong_of_log2 (by omega)))
abbrev lJ:D->D->Option D:=ii n4 fun a b=>.int (a/b)
section
variable{X:Cx}{g:GE}{m:List Md}{e a b c o:Expr}{es:List Expr}{f fa fb fc fo:FE}{fl:aj->Res (List D)}{pos p apos cpos:Pos}
theorem zS(ha:SB X g m a fa)(hb:SB X g m b fb):SE X g m (.BinOp a .FloorDiv b pos) (f2 fa fb lJ):=i0 Jr (mq fun _ _=>.int _) ha hb
def absD:List D->Option D
|[.int i]=>some (.int (if i<0 then-i else i))
|_=>none
theorem D7{K:W.Frag}:lE K (fun xs H Q=>∃i:Int,xs=[.int i]/\Q (.int (if i<0 then-i else i)) H) absD:=by
 intro G H vs ds d Q gk rs e q;unfold absD at e;split at e
 .cases e;cases rs with
 |cons r1 t=>cases t;exact⟨_,by rw[r1.int gk],q _ G H (Grow.refl gk) (.scl (.int _))⟩
 .cases e
theorem Eh(hg:Gl X "abs")(hm:X.mg "abs" = none)(ha:gw X g m (e::es) fl)(he:j_ (e::es) X.env=(false,eval e X.env)::j_ es X.env:=by rfl)(hpl:(backTo pos (j_ es X.env)).any (·.1)=false:=by rfl):SE X g m (.Call (.Name "abs" p) (e::es) [] pos) (fC fl absD):=iF D7 (k4 Ie hg hm PyProof.Rows.boot_abs ha (by decide) (by decide) he hpl)
theorem zT{x:Str}{i:Int}(hg:Gl X x)(hk:∃t,X.mg x=some (.int i t))(hd:(x==("__debug__" : Str))=false:=by decide):SE X g m (.Name x pos) fun _=>.ok (.int i):=by obtain⟨t,hm⟩:=hk;exact FM (v:=.int i) hg hm ⟨t,rfl⟩ (.int i) hd
theorem Dq{K:W.Frag}{h:Heap}{mg:Str->Option b_}{x:Str}(KX:K.In h)(G:h.Ns My mg){i:Int}{t:Tok}(z:W.nsIn K My x=some (some (.int i t))):∃t,mg x=some (.int i t):=⟨t,W.mg_of KX G z⟩
def Aa(K:W.Frag):V->List V->Hp->VK->Prop:=fun x vs H Q=>∃p xs y,x=.ref p/\vs=[y]/\aU K H p xs/\eD y=true/\xs.all eD=true/\Q (.int ((xs.countP fun z=>dZ z y:Nat):Int)) H
theorem zD{y:V}:∀{xs:List V}{us:List b_},ai xs us->xs.all eD=true->us.countP (cQ y)=xs.countP fun z=>dZ z y
|_,_,.nil,_=>rfl
|x::xs,u::us,.cons r t,f=>by rw[Nq,I_]at f;rw[Op,Op,zD t f.2,l0 r f.1]
theorem Jw:f8 X "list.count" (Aa X.K):=by
 intro pz s σ H x vs v us Q I rx rv h;obtain⟨p,xs,y,rfl,rfl,hq,fy,fx,q⟩:=h;cases rx;obtain⟨u,rfl,ru⟩:=fJ rv;obtain⟨its,r,pl,hz⟩:=I.list hq;obtain⟨o,n,ho,hc,hd,hs⟩:=pl;obtain⟨ocls,odict,odata,oslots⟩:=o;simp only at hc hd hs;subst hc hd hs;refine Q1 P2 ⟨_,ho,rfl⟩ PySem.F.entry_list_count (PySem.F.args_list_count_2 _ _)
  (SeqAt.list_countAt p its.toArray n none oslots u (cQ y)) ⟨ho,fun w hw=>kZ ru fy r fx w (by simpa using hw),⟨.int _,H,I.tok _,⟨_,rfl⟩,?_⟩⟩
 have e:(its.toArray.toList.countP (cQ y))=xs.countP fun z=>dZ z y:=zD r fx;rw[e];exact q
def ox(d:D)(zs:List D):Option D:=match d,zs with
|.lst ds,[x]=>if cI x=true/\ds.all cI=true then some (.int ((ds.countP fun z=>eqs z x:Nat):Int))else none
|_,_=>none
theorem JC{K:W.Frag}:CW K (Aa K) ox:=by
 intro G H v d vs ds d' Q gk rv rs e q;unfold ox at e;split at e
 .rename_i zs x;split at e
  .rename_i hc;cases e;cases rs with
  |cons r1 rt=>
    cases rt;obtain⟨a,xs,rfl,s,r⟩:=rv.lst gk;obtain⟨e1,f1⟩:=RB.flat r1 gk hc.1;obtain⟨e3,f3⟩:=wX r gk hc.2;refine⟨a,xs,_,rfl,rfl,s,f1,f3,?_⟩;have:(xs.countP fun z=>dZ z (dz x))=zs.countP fun z=>eqs z x:=by rw[e3,N6];rfl
    rw[e1,this];exact q _ G H (Grow.refl gk) (.scl (.int _))
  .cases e
 .cases e
end
def dJ(g:GE)(H:Hp)(fp:List Addr)(i:Nat)(p:Addr):GE:=⟨g.gh,fun b=>if b∈fp then H b else g.h0 b,fun j=>if j=i then some (some (V.ref p),none)else g.hd j⟩
theorem AC{g:GE}{H H':Hp}{fp:List Addr}{i:Nat}{p:Addr}(h:∀b∈fp,H' b=H b):dJ g H' fp i p=dJ g H fp i p:=by
 unfold dJ;congr 1;funext b;by_cases hb:b∈fp
 .rw[if_pos hb,if_pos hb,h b hb]
 .rw[if_neg hb,if_neg hb]
def fY(K:W.Frag)(G:GH)(H:Hp)(b:Addr)(ds:List D):Prop:=∃xs,H b=some (.lst xs)/\bx K G xs ds
structure LRw(K:W.Frag)(G:GH)(H:Hp)(p:Addr)(as:List Addr)(w:List (List D)):Prop where
 out:H p=some (.lst (as.map V.ref))
 nd:(p::as).Nodup
 un:∀b∈p::as,G b=none
 rw:Paired (fY K G H) as w
theorem fY.mono{K:W.Frag}{G G':GH}{H H':Hp}{b:Addr}{ds:List D}(h:fY K G H b ds)(ge:aM G G')(he:H' b=H b):fY K G' H' b ds:=by obtain⟨xs,h1,h2⟩:=h;exact⟨xs,by rw[he];exact h1,h2.mono ge⟩
theorem A1{α β:Type}{F F':α->β->Prop}{l:List α}{r:List β}(h:Paired F l r)(f:∀a∈l,∀b,F a b->F' a b):Paired F' l r:=by induction h with
|nil=>exact .nil
|cons h _ ih=>exact .cons (f _ e_ _ h) (ih fun a ha=>f a (c_ _ ha))
theorem LRw.isS{K:W.Frag}{G:GH}{H:Hp}{p:Addr}{as:List Addr}{w:List (List D)}(h:LRw K G H p as w){b:Addr}(hb:b∈p::as):H b≠none:=by
 rcases p_.mp hb with rfl|hb
 .rw[h.out];simp
 .have:∀{as:List Addr}{w:List (List D)},Paired (fY K G H) as w->b∈as->H b≠none:=fun{as w} q hb=>by induction q with
  |nil=>cases hb
  |cons r _ ih=>
    rcases p_.mp hb with rfl|hb
    .obtain⟨xs,e,_⟩:=r;rw[e];simp
    .exact ih hb
  exact this h.rw hb
theorem LRw.mono{K:W.Frag}{G G':GH}{H H':Hp}{p:Addr}{as:List Addr}{w:List (List D)}(h:LRw K G H p as w)(ge:aM G G')(he:∀b∈p::as,H' b=H b)(un:∀b∈p::as,G' b=none):LRw K G' H' p as w:=⟨by rw[he p e_];exact h.out,h.nd,un,A1 h.rw fun b hb ds r=>r.mono ge (he b (c_ _ hb))⟩
def lB(X:Cx)(g:GE)(i:Nat)(m:List Md)(r:aj)(w:List (List D))(G:GH)(st:L2.St)(H:Hp):Prop:=∃p as,LRw X.K G H p as w/\(∀b∈p::as,g.h0 b=none)/\SI X (dJ g H (p::as) i p) m r G st H/\m[i]? = some .bw
section
variable{X:Cx}{g:GE}{i:Nat}{m m' m1:List Md}{r r':aj}{w:List (List D)}{G G':GH}{σ σ':L2.St}{H H':Hp}
theorem KI{p:Addr}{as:List Addr}(R:LRw X.K G H p as w)(h0:∀b∈p::as,g.h0 b=none)(si:SI X (dJ g H (p::as) i p) m r G σ H)(le:aM G G')(si':SI X (dJ g H (p::as) i p) m' r' G' σ' H')(hm:m'[i]? = some .bw):lB X g i m' r' w G' σ' H':=by
 have he:∀b∈p::as,H' b=H b:=fun b hb=>by have hs:=R.isS hb;cases e:H b with
 |none=>exact absurd e hs
 |some o=>
   have:(dJ g H (p::as) i p).h0 b=some o:=by show(if b∈p::as then H b else g.h0 b)=_;rw[if_pos hb];exact e
   rw[si'.old b o this]
 have un:∀b∈p::as,G' b=none:=fun b hb=>by
  have h:(dJ g H (p::as) i p).h0 b≠none:=by show(if b∈p::as then H b else g.h0 b)≠_;rw[if_pos hb];exact R.isS hb
  have e1:=si'.gf b h;have e2:=si.gf b h;rw[e1,<-e2];exact R.un b hb
 exact⟨p,as,R.mono le he un,h0,by rw[AC he];exact si',hm⟩
abbrev Mq:=aj->List (List D)->Option (aj×List (List D))
variable{st:Stmt}{sts:List Stmt}{ro:Bool}{mb:List Md}{s1:FS}{f1 f2:Mq}{tg iter:Expr}{pos:Pos}
theorem Gv{K:W.Frag}{H:Hp}:∀{as:List Addr}{w:List (List D)}{G:GH},aI K G H->Paired (fY K G H) as w->as.Nodup->(∀b∈as,G b=none)->∃G',aM G G'/\(∀b,b∉as->G' b=G b)/\aI K G' H/\Paired (fun b ds=>G' b=some (.lst ds)) as w:=by
 intro as
 induction as with
|nil=>intro w G gk h _ _;cases h;exact⟨G,aM.refl G,fun _ _=>rfl,gk,.nil⟩
|cons b as ih=>intro w G gk h nd un;cases h with
 |@cons _ ds _ w r t=>
   rw[List.nodup_cons]at nd;have hb:=un b e_;obtain⟨xs,e,rs⟩:=r;have g1:aI K (gset G b (.lst ds)) H:=gk.gset hb (.lst (.inl e) rs);obtain⟨G',l,o,g,q⟩:=ih g1 (A1 t fun c hc ds r=>r.mono (dM hb) rfl) nd.2 fun c hc=>by rw[dy (by rintro rfl;exact nd.1 hc)];exact un c (c_ _ hc)
   refine⟨G',aM.trans (dM hb) l,fun c hc=>?_,g,.cons (l _ _ dc) q⟩;rw[o c fun z=>hc (c_ _ z),dy (by rintro rfl;exact hc e_)]
theorem Ke{G:GH}{as:List Addr}{w:List (List D)}{b:Addr}(hb:b∈as)(q:Paired (fun b ds=>G b=some (.lst ds)) as w):∃ds,G b=some (.lst ds):=by induction q with
|nil=>cases hb
|cons h _ ih=>
  rcases p_.mp hb with rfl|hb
  .exact⟨_,h⟩
  .exact ih hb
theorem AD{fp:List Addr}{p:Addr}{d0:D}(si:SI X (dJ g H fp i p) m r G σ H)(hm:m[i]? = some .bw)(h0:∀b∈fp,g.h0 b=none)(hS:∀b∈fp,H b≠none)(hb:∀j,j≠i->m[j]?≠some .bw)(le:aM G G')(g2:aI X.K G' H)(out:∀b,b∉fp->G' b=G b)(hd:G' p=some d0):SI X g (m.set i .sh) (r.set i (some d0)) G' σ H:=by
 have hlt:i<m.length:=(h_.mp hm).1;have hst:σ[i]? = some (some (V.ref p)):=(si.lk i (some (V.ref p),none) (by show(if i=i then _ else _)=_;rw[if_pos rfl]) hm).1;have h0':∀b,b∉fp->(dJ g H (fp) i p).h0 b=g.h0 b:=fun b hb=>by show(if b∈fp then H b else g.h0 b)=_;rw[if_neg hb]
 have h0i:∀b,b∈fp->(dJ g H (fp) i p).h0 b≠none:=fun b hb=>by show(if b∈fp then H b else g.h0 b)≠_;rw[if_pos hb];exact hS b hb
 have nin:∀b,g.h0 b≠none->b∉fp:=fun b h z=>h (h0 b z);have mne:∀{j x},i≠j->(m.set i .sh)[j]? = some x->m[j]? = some x:=fun hij h=>by rw[d_ hij]at h;exact h
 refine⟨g2,fun a o e=>?_,fun a d e=>le a d (si.ge a d e),fun a h=>?_,by simpa using si.lm,by simpa using si.lr,fun j d h1 h2=>?_,fun j d h1 h2=>?_,fun j d h1 h2=>?_,fun j k a d e hjk h1 h2 m1 m2 z1 z2=>?_,fun j o hj hm'=>?_⟩
 .exact si.old a o (by rw[h0' a (nin a (by rw[e];simp))];exact e)
 .have hn:=nin a h;rw[out a hn];exact si.gf a (by rw[h0' a hn];exact h)
 .by_cases hij:i=j
  .subst hij;rw[o_ (by rw[si.lr,<-si.lm];exact hlt)]at h1;cases h1;exact⟨_,hst,.ref hd⟩
  .rw[d_ hij]at h1;obtain⟨v,y1,y2⟩:=si.sh j d h1 (mne hij h2);exact⟨v,y1,y2.mono le⟩
 .by_cases hij:i=j
  .subst hij;rw[o_ hlt]at h2;cases h2
  .rw[d_ hij]at h1;obtain⟨a,y1,y2,y3⟩:=si.ow j d h1 (mne hij h2);have hn:a∉fp:=fun z=>h0i a z y3;exact⟨a,y1,⟨by rw[out a hn];exact y2.un,y2.ob.mono le fun _ z=>z⟩,by rw[<-h0' a hn];exact y3⟩
 .by_cases hij:i=j
  .subst hij;rw[o_ hlt]at h2;cases h2
  .exact absurd (mne hij h2) (hb j (NO hij))
 .have hij:i≠j:=by rintro rfl;rw[o_ hlt]at m1;cases m1
  have hik:i≠k:=by rintro rfl;rw[o_ hlt]at m2;cases m2
  rw[d_ hij]at h1;rw[d_ hik]at h2;exact si.dis j k a d e hjk h1 h2 (mne hij m1) (mne hik m2) z1 z2
 .by_cases hij:i=j
  .subst hij;rw[o_ hlt]at hm';cases hm'
  .exact absurd (mne hij hm') (hb j (NO hij))
theorem lB.frz(s:lB X g i m r w G σ H)(hb:∀j,j≠i->m[j]?≠some .bw):∃G',aM G G'/\(∀b d,G b=none->G' b=some d->∃ds,d=.lst ds)/\SI X g (m.set i .sh) (r.set i (some (.lst (w.map D.lst)))) G' σ H:=by
 obtain⟨p,as,R,h0,si,hm⟩:=s;have nd:=H_.mp R.nd;obtain⟨G1,l1,o1,g1,q1⟩:=Gv si.gok R.rw nd.2 fun b hb=>R.un b (c_ _ hb);have hp1:G1 p=none:=by rw[o1 p nd.1];exact R.un p e_
 have rs:bx X.K G1 (as.map V.ref) (w.map D.lst):=by
  have:∀{as:List Addr}{w:List (List D)},Paired (fun b ds=>G1 b=some (.lst ds)) as w->bx X.K G1 (as.map V.ref) (w.map D.lst):=fun{as w} q=>by induction q with
  |nil=>exact .nil
  |cons h _ ih=>exact .cons (.ref h) ih
  exact this q1
 have g2:aI X.K (gset G1 p (.lst (w.map D.lst))) H:=g1.gset hp1 (.lst (.inl R.out) rs);have le:aM G (gset G1 p (.lst (w.map D.lst))):=aM.trans l1 (dM hp1);have out:∀b,b∉p::as->gset G1 p (.lst (w.map D.lst)) b=G b:=fun b hb=>by rw[dy (by rintro rfl;exact hb e_),o1 b fun z=>hb (c_ _ z)]
 refine⟨_,le,fun b d hn e=>?_,AD si hm h0 (fun b hb=>R.isS hb) hb le g2 out dc⟩;by_cases hbp:b=p
 .subst hbp;rw[dc]at e;cases e;exact⟨_,rfl⟩
 .rw[dy hbp]at e;by_cases hba:b∈as
  .obtain⟨ds,e1⟩:=Ke hba q1;rw[e1]at e;cases e;exact⟨_,rfl⟩
  .rw[o1 b hba,hn]at e;cases e
end
def RO(K:W.Frag)(H2:Hp)(p:Addr)(G:GH)(H:Hp)(ws:List V)(ds:List D):Prop:=Paired (fun v d=>∃b,v=V.ref b/\H2 b=none/\b≠p/\Own K G H b d) ws ds/\ws.Nodup
section
variable{K:W.Frag}{H2:Hp}{p:Addr}{G G':GH}{H H':Hp}{ws:List V}{ds:List D}
theorem RO.grow(h:RO K H2 p G H ws ds)(w:Grow K G H G' H'):RO K H2 p G' H' ws ds:=⟨Paired.mono (fun v d ⟨b,e,h1,h2,h3⟩=>⟨b,e,h1,h2,h3.mono w⟩) h.1,h.2⟩
theorem RO.upd{o:HO}(h:RO K H2 p G H ws ds):RO K H2 p G (L2.upd H p o) ws ds:=⟨Paired.mono (fun v d ⟨b,e,h1,h2,h3⟩=>⟨b,e,h1,h2,h3.un,h3.ob.mono (fun _ _ z=>z) fun _ z=>by rw[aZ h2];exact z⟩) h.1,h.2⟩
end
section
variable{X:Cx}{g:GE}{i:Nat}{m m' m1:List Md}{r r':aj}{w:List (List D)}{G G':GH}{σ σ':L2.St}{H H':Hp}
theorem SI.row{p:Addr}{as:List Addr}(R:LRw X.K G H p as w)(si:SI X (dJ g H (p::as) i p) m r G σ H)(hm:m[i]? = some .bw)(hb:∀j,j≠i->m[j]?≠some .bw){b:Addr}(hbm:b∈p::as)(o:HO):SI X (dJ g (upd H b o) (p::as) i p) m r G σ (upd H b o):=by
 have un:=R.un b hbm;have h0':∀c,c∉p::as->(dJ g H (p::as) i p).h0 c=g.h0 c:=fun c hc=>by show(if c∈p::as then H c else g.h0 c)=_;rw[if_neg hc]
 have h0i:∀c,c∈p::as->(dJ g H (p::as) i p).h0 c=H c:=fun c hc=>by show(if c∈p::as then H c else g.h0 c)=_;rw[if_pos hc]
 have k0':∀c,c∉p::as->(dJ g (upd H b o) (p::as) i p).h0 c=g.h0 c:=fun c hc=>by show(if c∈p::as then _ else g.h0 c)=_;rw[if_neg hc]
 have k0i:∀c,c∈p::as->(dJ g (upd H b o) (p::as) i p).h0 c=upd H b o c:=fun c hc=>by show(if c∈p::as then upd H b o c else g.h0 c)=_;rw[if_pos hc]
 refine⟨fun c d e=>?_,fun c u e=>?_,si.ge,fun c h=>?_,si.lm,si.lr,si.sh,fun j d h1 h2=>?_,fun j d h1 h2=>?_,si.dis,si.lk⟩
 .have hc:c≠b:=by rintro rfl;rw[un]at e;cases e
  exact(si.gok c d e).mono (fun _ _ z=>z) fun u z=>by rw[aZ hc];exact z
 .by_cases hc:c∈p::as
  .rw[k0i c hc]at e;exact e
  .rw[k0' c hc]at e;have hcb:c≠b:=by rintro rfl;exact hc hbm
   rw[aZ hcb];exact si.old c u (by rw[h0' c hc];exact e)
 .by_cases hc:c∈p::as
  .exact si.gf c (by rw[h0i c hc];exact R.isS hc)
  .rw[k0' c hc]at h;exact si.gf c (by rw[h0' c hc];exact h)
 .obtain⟨a,q1,q2,q3⟩:=si.ow j d h1 h2;have ha:a∉p::as:=fun z=>by rw[h0i a z]at q3;exact R.isS z q3
  have hab:a≠b:=by rintro rfl;exact ha hbm
  rw[h0' a ha]at q3;exact⟨a,q1,⟨q2.un,q2.ob.mono (fun _ _ z=>z) fun u z=>by rw[aZ hab];exact z⟩,by rw[k0' a ha];exact q3⟩
 .by_cases hj:j=i
  .subst hj;have:=(si.lk j (some (V.ref p),none) (by show(if j=j then _ else _)=_;rw[if_pos rfl]) hm).2 d h1;cases this
  .exact absurd h2 (hb j hj)
variable{ro:Bool}{mb:List Md}{pos p1 p2 p3 p4 p5 p6 p7 p8 p9 p10 p11:Pos}{x xa xb:Str}{jc:Nat}
end
def lessA(H:Hp)(a:Addr):Hp:=fun b=>if b=a then none else H b
theorem HV{H:Hp}{a b:Addr}(h:b≠a):lessA H a b=H b:=if_neg h
theorem Grow.lessA{K:W.Frag}{G G' G2:GH}{H H' H2:Hp}{a:Addr}(w:Grow K G H G' H')(ha:H a=none)(w2:Grow K G' (lessA H' a) G2 H2):Grow K G H G2 H2:=by
 have ne:∀b,H b≠none->b≠a:=fun b h=>by rintro rfl;exact h ha
 have he:∀b o,H b=some o->DL.lessA H' a b=some o:=fun b o e=>by rw[HV (ne b (by rw[e];simp))];exact w.he b o e
 refine⟨w2.ok,fun b o e=>w2.he b o (he b o e),fun b d e=>w2.ge b d (w.ge b d e),fun b h=>?_⟩;rw[w2.gf b ?_,w.gf b h];cases e:H b with
|none=>exact absurd e h
|some o=>rw[he b o e];simp
def Mj(K:W.Frag)(ro:Bool)(ms:List Md)(F:List D->Res D):Sp:=fun vs H Q _=>∃G us a ds d,aI K G H/\vs=us++[V.ref a]/\ArgsOk K G H ms us ds/\Own K G H a d /\fin (F (ds++[d])) (fun d'=>∀v G' H',Grow K G (lessA H a) G' H'->RV ro K (lessA H a) G' H' v d'->Q v H') fun _=>False
section
variable{K:W.Frag}{G:GH}{H:Hp}
theorem ArgsOk.snoc{ms:List Md}{us:List V}{ds:List D}{v:V}{d:D}(h:ArgsOk K G H ms us ds)(r:RB K G H v d):ArgsOk K G H (ms++[.bw]) (us++[v]) (ds++[d]):=by induction h with
|nil=>exact .bw r .nil
|sh h _ ih=>exact .sh h ih
|bw h _ ih=>exact .bw h ih
end
section
variable{P:D_}{w:Mu}{K:W.Frag}{mg:Str->Option b_}{base:Heap}
structure CalleeV(P:D_)(w:Mu)(K:W.Frag)(mg:Str->Option b_)(base:Heap)(x:Str)(ps:List Str)(k:Nat)(ro:Bool)(ms:List Md)(F:List D->Res D):Prop where
 ex:∃f fd,mg x=some (.ref f)/\W.keepIn K (.ref f)=true/\fq K fd ps []/\FnOk P w K mg base bR k f fd ps (Mj K ro ms F)
end
theorem LRw.grow{K:W.Frag}{G G':GH}{H H':Hp}{p:Addr}{as:List Addr}{w:List (List D)}(R:LRw K G H p as w)(wg:Grow K G H G' H'):LRw K G' H' p as w:=by
 refine R.mono wg.ge (fun b hb=>?_) fun b hb=>by rw[wg.gf b (R.isS hb)];exact R.un b hb
 cases e:H b with
|none=>exact absurd e (R.isS hb)
|some o=>rw[wg.he b o e]
inductive Cln:D->Prop where
 |non:Cln .non
 |bl (b:Bool):Cln (.bl b)
 |int (i:Int):Cln (.int i)
 |str (x:Str):Cln (.str x)
 |tup {ds:List D}:(∀d∈ds,Cln d)->Cln (.tup ds)
theorem Cln.lst{ds:List D}(h:Cln (.lst ds)):False:=nomatch h
theorem Cln.dic{ds:List (au×D)}(h:Cln (.dic ds)):False:=nomatch h
theorem Cln.get{ds:List D}(h:Cln (.tup ds)):∀d∈ds,Cln d:=by cases h with
|tup h=>exact h
section
variable{X:Cx}{g:GE}{i:Nat}{m m' m1:List Md}{r r':aj}{w:List (List D)}{G G':GH}{σ σ':L2.St}{H H':Hp}{e:Expr}{f:FE}{st:Stmt}{pos p1 p2 p3 p4 p5 p6 p7 p8 p9 p10:Pos}{x xa xb y:Str}
theorem lB.after(s:lB X g i m r w G σ H)(wg:Grow X.K G H G' H'):lB X g i m r w G' σ H':=by obtain⟨p,as,R,h0,si,hm⟩:=s;exact KI R h0 si wg.ge (si.grow wg) hm
end
structure TL(K:W.Frag)(G:GH)(H:Hp)(p a:Addr)(d1:D)(ds:List D):Prop where
 tp:∃x xs,H p=some (.tup [x,.ref a])/\RG K G x d1/\H a=some (.lst xs)/\bx K G xs ds
 un:∀b∈[p,a],G b=none
 ne:p≠a
theorem TL.isS{K:W.Frag}{G:GH}{H:Hp}{p a:Addr}{d1:D}{ds:List D}(t:TL K G H p a d1 ds):∀b∈[p,a],H b≠none:=fun b hb=>by
 obtain⟨x,xs,h1,_,h2,_⟩:=t.tp;rcases p_.mp hb with rfl|hb
 .rw[h1];simp
 .rw[MG.mp hb,h2];simp
theorem TL.grow{K:W.Frag}{G G':GH}{H H':Hp}{p a:Addr}{d1:D}{ds:List D}(t:TL K G H p a d1 ds)(w:Grow K G H G' H'):TL K G' H' p a d1 ds:=by obtain⟨x,xs,h1,h2,h3,h4⟩:=t.tp;exact⟨⟨x,xs,w.he _ _ h1,h2.mono w.ge,w.he _ _ h3,h4.mono w.ge⟩,fun b hb=>by rw[w.gf b (t.isS b hb)];exact t.un b hb,t.ne⟩
def RW(K:W.Frag)(H0:Hp)(G:GH)(H:Hp)(v:V)(d:D):Prop:=∃p a d1 ds,v=.ref p/\d=.tup [d1,.lst ds]/\(∀b∈[p,a],H0 b=none)/\TL K G H p a d1 ds
def Mi(K:W.Frag)(ms:List Md)(F:List D->Res D):Sp:=fun vs H Q _=>∃G ds,aI K G H/\ArgsOk K G H ms vs ds/\fin (F ds) (fun d=>∀v G' H',Grow K G H G' H'->RW K H G' H' v d->Q v H') fun _=>False
abbrev FW:=aj->Res D
section
variable{P:D_}{w:Mu}{K:W.Frag}{mg:Str->Option b_}{base:Heap}
structure CalleeW(P:D_)(w:Mu)(K:W.Frag)(mg:Str->Option b_)(base:Heap)(x:Str)(ps:List Str)(k:Nat)(ms:List Md)(F:List D->Res D):Prop where
 ex:∃f fd,mg x=some (.ref f)/\W.keepIn K (.ref f)=true/\fq K fd ps []/\FnOk P w K mg base bR k f fd ps (Mi K ms F)
end
section
variable{X:Cx}{g:GE}{ro:Bool}{i:Nat}{m m' m1 mb ms:List Md}{r r':aj}{G G':GH}{σ σ':L2.St}{H H':Hp}{e c:Expr}{es:List Expr}{q:FQ}{st:Stmt}{sts sts1:List Stmt}{fl:aj->Res (List D)}{F:List D->Res D}{k:Nat}{ps:List Str}{pos p1 p2 p3 p4 apos cpos:Pos}{x y:Str}{d1:D}{ds:List D}
def nQ(X:Cx)(g:GE)(i:Nat)(m:List Md)(r:aj)(d1:D)(ds:List D)(G:GH)(st:L2.St)(H:Hp):Prop:=∃p a,TL X.K G H p a d1 ds/\(∀b∈[p,a],g.h0 b=none)/\SI X (dJ g H [p,a] i p) m r G st H/\m[i]? = some .bw
theorem nQ.after(s:nQ X g i m r d1 ds G σ H)(wg:Grow X.K G H G' H'):nQ X g i m r d1 ds G' σ H':=by
 obtain⟨p,a,t,h0,si,hm⟩:=s;refine⟨p,a,t.grow wg,h0,?_,hm⟩;rw[AC (H:=H) fun b hb=>?_]
 .exact si.grow wg
 .cases e:H b with
 |none=>exact absurd e (t.isS b hb)
 |some o=>rw[wg.he b o e]
theorem nQ.frz(s:nQ X g i m r d1 ds G σ H)(hb:∀j,j≠i->m[j]?≠some .bw):∃G',aM G G'/\(∀b d,G b=none->G' b=some d->¬ Cln d)/\SI X g (m.set i .sh) (r.set i (some (.tup [d1,.lst ds]))) G' σ H:=by
 obtain⟨p,a,t,h0,si,hm⟩:=s;obtain⟨x,xs,h1,h2,h3,h4⟩:=t.tp;have ua:=t.un a (c_ _ e_);have up:=t.un p e_;have g1:aI X.K (gset G a (.lst ds)) H:=si.gok.gset ua (.lst (.inl h3) h4);have up1:gset G a (.lst ds) p=none:=by rw[dy t.ne];exact up
 have g2:aI X.K (gset (gset G a (.lst ds)) p (.tup [d1,.lst ds])) H:=g1.gset up1 (.tup (.inl h1) (.cons (h2.mono (dM ua)) (.cons (.ref dc) .nil)));refine⟨_,aM.trans (dM ua) (dM up1),fun b d hn e hc=>?_,AD si hm h0 t.isS hb (aM.trans (dM ua) (dM up1)) g2 (fun b hb=>?_) dc⟩
 .by_cases hbp:b=p
  .subst hbp;rw[dc]at e;cases e;exact(hc.get _ (c_ _ e_)).lst
  .rw[dy hbp]at e;by_cases hba:b=a
   .subst hba;rw[dc]at e;cases e;exact hc.lst
   .rw[dy hba,hn]at e;cases e
 .rw[dy (by rintro rfl;exact hb e_),dy (by rintro rfl;exact hb (c_ _ e_))]
abbrev F3:=aj->D->List D->Option aj
end
end DL
section
namespace DL
section
open PySem PyProof.Rows PySem.W PySem.Calls
variable{prog:D_}{w:Mu}{A:Mw}{E:b_->g_->Prop}{s:g_}{l:Addr}{vs:List b_}{ns:List Int}
end
open PySem PySem.Spec PyProof.Rows L2
end DL
end
section
namespace DL
section
open PySem PyProof.Rows
variable{prog:D_}{w:Mu}{A:Mw}{R:Te->g_->Prop}{I S:Addr}{fp wr:List Addr}{n:Nat}{P:Nat->b_->Prop}{St:Nat->Heap->Prop}{TP:Heap->Prop}{bt:Nat->Nat->Bool}
def oq(wr:List Addr)(S:Addr)(h h':Heap):Prop:=∀b o,b∉wr->b≠S->h.get? b=some o->h'.get? b=some o
theorem oq.trans{h h1 h2:Heap}(a:oq wr S h h1)(b:oq wr S h1 h2):oq wr S h h2:=fun c o hc hs e=>b c o hc hs (a c o hc hs e)
end
end DL
end
namespace DL
open PySem PySem.Spec PyProof.Rows L2
end DL
namespace DL
open PySem PySem.Spec PyProof.Rows L2 PySem.W PySem.Calls
def CO(K:W.Frag)(ro:Bool)(ms:List Md)(F:List D->Res D):Sp:=fun vs H Q E=>∃G ds,aI K G H/\ArgsOk K G H ms vs ds /\fin (F ds) (fun d=>∀v G' H',Grow K G H G' H'->RV ro K H G' H' v d->Q v H') fun x=>∀C od nm fs G' H',x=xD nm fs->XN K nm C->XF G' od fs->Grow K G H G' H'->E (.ref C) od H'
section
variable{X:Cx}{k:Nat}{f:Addr}{fd:M5}{ps:List Str}{sp:Sp}{dvs:List V}{ds:List b_}{x:Str}{p pos:Pos}{e:Expr}{es:List Expr}{t:TA}
def og(X:Cx)(σ:L2.St)(H:Hp)(E:XK):Prop:=∀pz s a cls od H' s',Inv X pz σ H s->Fly X.prog X.w X.stack H s H' a cls od s'->E cls od H'->X.xe (.ref a) s'
theorem Ai{pz:List (Addr×Obj)}{σ:L2.St}{H:Hp}{s:g_}{Q:VK}{E:XK}{us:List b_}{vs:List V}(F:FnOk X.prog X.w X.K X.mg X.base (kA X.prog X.w) k f fd ps sp)(hr:Room k X.A)(hb:fq X.K fd ps ds)(hd:ai dvs ds)(I:Inv X pz σ H s)(hx:og X σ H E)(r:ai vs us)(h:sp (vs++dvs) H Q E):z_ (E_ X.prog X.w) X.A (call (.ref f) us) (EP X pz σ Q) X.xe s:=by
 have r2:ai (vs++dvs) (us++ds):=r.append hd;have hl:(us++ds).length=ps.length:=by rw[<-r2.length];exact F.len _ _ _ _ h
 refine QX (Qc (F.run X.A X.stack s H ⟨us,[]⟩ (us++ds) (vs++dvs) Q E hr I.env0 (hb s us I.kIn hl) r2 h) fun r s' hq=>?_);cases r with
|error e=>obtain⟨a,cls,H',od,rfl,fl,q⟩:=hq;exact hx pz s a cls od H' s' I fl q
|ok fl=>cases fl with
 |ret u=>exact I.after hq
 |next=>exact MY hq
 |brk=>exact MY hq
 |cont=>exact MY hq
theorem II(F:FnOk X.prog X.w X.K X.mg X.base (kA X.prog X.w) k f fd ps sp)(hr:Room k X.A)(hg:Gl X x)(hm:X.mg x=some (.ref f))(hk:W.keepIn X.K (.ref f)=true)(hb:fq X.K fd ps ds)(hd:ai dvs ds)(ha:PA X (e::es) t)(hdb:(x==("__debug__" : Str))=false:=by decide)(he:j_ (e::es) X.env=(false,eval e X.env)::j_ es X.env:=by rfl)(hpl:(backTo pos (j_ es X.env)).any (·.1)=false:=by rfl):PE X (.Call (.Name x p) (e::es) [] pos) (fun σ H Q=>t σ H fun vs H1=>∃E,sp (vs++dvs) H1 Q E/\og X σ H1 E):=by intro pz s σ H Q I h;refine NY (l7 I hg hm ?_ hdb);refine W.callWith_K (h₀:=X.base) I.ok.mod.kin hk (aG (ha pos pz s σ H _ I h) fun us s1 ⟨vs,H1,I1,r,E,q,px⟩=>⟨I1.kIn,?_⟩) he hpl;exact Ai F hr hb hd I1 px r q
end
section
variable{P:D_}{w:Mu}{K:W.Frag}{mg:Str->Option b_}{base:Heap}
theorem Gu{x qual:Str}{st:Stmt}{f:Addr}{fd:M5}{N ps:List Str}{k:Nat}{ro:Bool}{ms:List Md}{fs:FS}{m':List Md}(F:Fun K x qual st f fd)(S:FnScope N ps (ar st))(hms:ms.length=ps.length)(hbody:∀(cdv:b_)(A:Mw)(outer:List Env)(s:g_)(H:Hp)(g:GE)(E:XK),Room k (A.deeper (Ot qual (ar st) s.heap.objs.size f cdv)) ->cZ (aQ (kA P w) P w K mg base N qual (ar st) f cdv A outer s H E) g ro [] (gr N.length ms) (c8 st) fs m'):FnOk P w K mg base (kA P w) (k+1) f fd ps (CO K ro ms fun ds=>aq ro (fs (aK N.length ds))):=by
 obtain⟨oc,od,kV,doc,pm,an,cdv,ct,osl,rfl,lk,hcd⟩:=F.ex;refine qv lk hcd S (fun vs H Q E ⟨G,ds,gk,rs,q⟩=>rs.len.1.trans hms) fun A outer s H vs Q E hr h=>?_;obtain⟨G,ds,gk,rs,q⟩:=h;have hpl:ps.length<=N.length:=by have:=congrArg Pw S.pre;rw[Nm]at this;omega
 refine⟨_,(hbody cdv A outer s H ⟨G,H,fun _=>none⟩ E hr).2,aK N.length ds,G,oX gk rs (by omega),?_⟩;replace q:fin (aq ro (fs (aK N.length ds))) _ _:=q;cases e:fs (aK N.length ds)with
|nx r'=>rw[e]at q;cases ro with
 |false=>exact fun σ' G' H' _ si=>q .non G' H' si.grown (.scl .non)
 |true=>exact q.elim
|rt d=>rw[e]at q;exact fun v G' H' wg rv=>q v G' H' wg rv
|bk r'=>rw[e]at q;exact q.elim
|ct r'=>rw[e]at q;exact q.elim
|exc x r'=>rw[e]at q;intro pz ev s' σ' G' H' le si I ex;obtain⟨pins1,s1,H1,a,C,od1,nm,fs1,rfl,rfl,xn,xf,I1,fl⟩:=ex;exact fl.leaves I1 rfl rfl rfl fun s'' fl2=>⟨a,_,H',od1,rfl,fl2,q C od1 nm fs1 G' H' rfl xn xf si.grown⟩
|stuck=>rw[e]at q;exact q
structure CalleeX(P:D_)(w:Mu)(K:W.Frag)(mg:Str->Option b_)(base:Heap)(x:Str)(ps:List Str)(ds:List b_)(k:Nat)(ro:Bool)(ms:List Md)(F:List D->Res D):Prop where
 ex:∃f fd,mg x=some (.ref f)/\W.keepIn K (.ref f)=true/\fq K fd ps ds/\FnOk P w K mg base (kA P w) k f fd ps (CO K ro ms F)
theorem oK{x:Str}{st:Stmt}{N ps:List Str}{k:Nat}{ro:Bool}{ms:List Md}{fs:FS}{m':List Md}(A:DefAt K mg x st)(S:FnScope N ps (ar st))(hms:ms.length=ps.length)(hb:∀(kV doc pm:b_)(an:Option Addr)(cdv ct:b_)(us:List b_),us.length=ps.length->Pg (W.fnOf x x (fA st) (c8 st) (ar st) .none kV doc pm an cdv ct) ⟨us,[]⟩=pure (ps.zip us))(hbody:∀(f:Addr)(cdv:b_)(A:Mw)(outer:List Env)(s:g_)(H:Hp)(g:GE)(E:XK),Room k (A.deeper (Ot x (ar st) s.heap.objs.size f cdv)) ->cZ (aQ (kA P w) P w K mg base N x (ar st) f cdv A outer s H E) g ro [] (gr N.length ms) (c8 st) fs m'):CalleeX P w K mg base x ps [] (k+1) ro ms fun ds=>aq ro (fs (aK N.length ds)):=by obtain⟨f,fd,h1,F⟩:=A.ex;exact⟨f,fd,h1,F.kp,F.binds hb,Gu F S hms (hbody f)⟩
end
section
variable{X:Cx}{g:GE}{ro:Bool}{m mb:List Md}{e:Expr}{es:List Expr}{fl:aj->Res (List D)}{k:Nat}{ps:List Str}{F:List D->Res D}{dvs:List V}{ds:List b_}{dds:List D}{x:Str}{p np pos:Pos}{ms:List Md}{C:Addr}
def dP(fl:aj->Res (List D))(dds:List D)(F:List D->Res D):FE:=fun r=>(fl r).bind fun ds=>F (ds++dds)
theorem Hc(c:CalleeX X.prog X.w X.K X.mg X.base x ps ds k false (ms++MF dds.length .sh) F)(hr:Room k X.A)(hd:ai dvs ds)(hsc:Paired Scl dvs dds)(ha:fX X g m (e::es) ms fl)(hg:Gl X x:=by rfl)(hdb:(x==("__debug__" : Str))=false:=by decide)(he:j_ (e::es) X.env=(false,eval e X.env)::j_ es X.env:=by rfl)(hpl:(backTo pos (j_ es X.env)).any (·.1)=false:=by rfl):SE X g m (.Call (.Name x p) (e::es) [] pos) (dP fl dds F):=by
 obtain⟨fa,fd,h1,h2,h3,G1⟩:=c.ex;refine PE.imp (II G1 hr hg h1 h2 h3 hd ha hdb he hpl) fun σ H Q ⟨r,G,si,q⟩=>⟨r,G,si,?_⟩
 cases ez:fl r with
|ok zs=>
  unfold dP at q;rw[ez]at q;intro vs G' H' w' rs;refine⟨fun cls od H2=>∃C nm fs G2,cls=.ref C/\F (zs++dds)=.exc (xD nm fs)/\XN X.K nm C/\XF G2 od fs/\Grow X.K G' H' G2 H2,⟨G',zs++dds,w'.ok,rs.app hsc,?_⟩,?_⟩
  .cases ef:F (zs++dds)with
  |ok d=>replace q:fin (F (zs++dds)) _ _:=q;rw[ef]at q;exact fun v G2 H2 w2 rv=>q v G2 H2 (w'.trans w2) rv
  |exc y=>exact fun C od nm fs G2 H2 hy xn xf w2=>⟨C,nm,fs,G2,rfl,by rw[hy],xn,xf,w2⟩
  |stuck=>replace q:fin (F (zs++dds)) _ _:=q;rw[ef]at q;exact q
  .intro pz s a cls od H2 s' I fl ⟨C,nm,fs,G2,hc,ef,xn,xf,w2⟩;subst hc;replace q:fin (F (zs++dds)) _ _:=q;rw[ef]at q;exact q pz (.ref a) s' G2 H2 (w'.trans w2) (fl.inv I) ⟨pz,s,H',a,C,od,nm,fs,rfl,rfl,xn,xf,I,fl⟩
|exc x=>unfold dP at q;rw[ez]at q;exact q
|stuck=>unfold dP at q;rw[ez]at q;exact q
def gJ(m:List Md)(nm:Str)(fl:aj->Res (List D)):FS:=fun r=>onE m r (fl r) fun ds=>if ds.length<=100 then .exc (xD nm []) (forget m r)else .stuck
theorem zU{nm:Str}(hc:X.calm=true)(c:XC X.K X.mg x C)(xn:XN X.K nm C)(hg:Gl X x)(ha:SA X g m (e::es) fl)(hdb:(x==("__debug__" : Str))=false:=by decide)(he:j_ (e::es) X.env=(false,eval e X.env)::j_ es X.env:=by rfl)(hpl:(backTo p (j_ es X.env)).any (·.1)=false:=by rfl):SS X g ro mb m (.Raise (some (.Call (.Name x np) (e::es) [] p)) none pos) (gJ m nm fl) m:=by
 refine⟨rfl,fun pz s σ H D I ⟨r,G,si,q⟩=>?_⟩;refine Ja I hc c hg ha ⟨r,G,si,?_⟩ hdb he hpl;refine aW (fw si rfl q) fun ds q vs G' H' w' rs=>?_;have hl:vs.length=ds.length:=Paired.length rs;split at q
 .rename_i h100;refine⟨by rw[hl];exact MI h100 (by decide),fun s1 a s' I1 fl=>?_⟩;exact q pz (.ref a) s' σ G' H' w'.ge (by have:=(si.grow w').forget;exact this) (fl.inv I1) ⟨pz,s1,H',a,C,none,nm,[],rfl,rfl,xn,rfl,I1,fl⟩
 .exact q.elim
end
def lC(f:FS):Prop:=∀r r',f r≠.nx r'
theorem GJ{m:List Md}{f:FE}:lC (retF m f):=by intro r r' h;unfold retF onE at h;cases e:f r with
|ok d=>rw[e]at h;cases h
|exc x=>rw[e]at h;cases h
|stuck=>rw[e]at h;cases h
theorem Jk{s1 s2:FS}(h:lC s1):lC (seqF s1 s2):=by intro r r' e;unfold seqF at e;cases e1:s1 r with
|nx r1=>exact h r r1 e1
|rt d=>rw[e1]at e;cases e
|bk _=>rw[e1]at e;cases e
|ct _=>rw[e1]at e;cases e
|exc _ _=>rw[e1]at e;cases e
|stuck=>rw[e1]at e;cases e
theorem AX{s1 s2:FS}(h:lC s2):lC (seqF s1 s2):=by intro r r' e;unfold seqF at e;cases e1:s1 r with
|nx r1=>rw[e1]at e;exact h r1 r' e
|rt d=>rw[e1]at e;cases e
|bk _=>rw[e1]at e;cases e
|ct _=>rw[e1]at e;cases e
|exc _ _=>rw[e1]at e;cases e
|stuck=>rw[e1]at e;cases e
section
variable{X:Cx}{g:GE}{ro:Bool}{m m1 m2 mb:List Md}{sts:List Stmt}{f:FS}
theorem Hh(h:cZ X g ro mb m sts f m1)(hn:lC f)(hl:m2.length=m.length):cZ X g ro mb m sts f m2:=by
 have ha:b4 m2=b4 m1:=by have e:m2.length=m1.length:=hl.trans h.1.symm;unfold b4;rw[O6,O6,e]
 refine⟨hl,c6.imp h.2 fun D σ H ⟨r,G,si,q⟩=>⟨r,G,si,?_⟩⟩;cases e:f r with
|nx r'=>exact absurd e (hn r r')
|bk r'=>rw[e]at q;exact q
|ct r'=>rw[e]at q;exact q
|rt d=>rw[e]at q;exact q
|exc x r'=>rw[e]at q;unfold bG at q ⊢;rw[ha]at q;exact q
|stuck=>rw[e]at q;exact q
end
section
variable{M:RF}{A:Mw}{E:b_->g_->Prop}{s:g_}{nm q nmT qT:Str}{C N T NT:Addr}{bs bm bsT bmT:List b_}{hdct hdctT:Bool}{sn snT:List Str}{sub subT':List b_}{ab abT:Bool}{col colT:Option Bool}{dd ddT:Option Addr}{k0 k1 k2 k3 k5 t0 t1 t2 t3 t5:Option b_}{newId newIdT:String}
theorem LJ{e:Addr}{oe:Obj}{Q:Bool->g_->Prop}(hC:s.heap.get? C=some (NG nm q C N bs bm hdct sn sub ab col dd k0 k1 k2 k3 k5 newId))(hT:s.heap.get? T=some (NG nmT qT T NT bsT bmT hdctT snT subT' abT colT ddT t0 t1 t2 t3 t5 newIdT))(he:s.heap.get? e=some oe)(hc:oe.cls=.ref C)(hb:bmT.contains (Value.type "BaseException")=true)(hq:Q ((Value.ref C::bm).contains (.ref T)) s):z_ M A (excMatches (.ref e) (.ref T)) Q E s:=by unfold excMatches;refine f_ (wpAny_isInstance (T := "type") (b:=false) ⟨_,hT,rfl⟩ (by rw[isSubtype_type];kernel_rfl) ?_);rw[if_neg i_];refine f_ (r_ ?_);simp only[Qt,List.forIn_nil];refine f_ (f_ ?_);unfold isExcClass isType;refine f_ (f_ (f_ (wpAny_loadPart hT (r_ ?_))));rw[if_pos rfl];obtain⟨hh,hg,hdr,ht,ho⟩:=s;refine O_ hT ?_;rw[OC,hb,Ql];rw[if_neg (by simp)];refine r_ (r_ ?_);refine f_ ?_;unfold Rw;refine f_ (wpAny_loadPart he (r_ ?_));rw[hc];refine f_ (f_ (f_ (O_ hC ?_)));cases hm:(Value.ref C::bm).contains (Value.ref T)with
|true=>rw[hm]at hq;rw[if_pos rfl];exact r_ (r_ (r_ hq))
|false=>rw[hm]at hq;rw[if_neg i_];exact r_ (r_ (r_ hq))
end
section
variable{X:Cx}{pz:List (Addr×Obj)}{σ:L2.St}{H H':Hp}{s s':g_}{M:RF}{A:Mw}{E:b_->g_->Prop}
theorem Inv.unbind{i:Nat}{n:Str}{h':Heap}{u:Option b_}{m:Str->Option b_}(I:Inv X pz σ H s)(hN:X.N.Nodup)(hi:X.N[i]? = some n)(hm:s.heap.Ns X.env.locals m)(hn:h'.Ns X.env.locals fun x=>if x=n then u else m x)(sb:Pb X.env.locals s.heap h')(hl:∀x v,m x=some v->True):Inv X pz (σ.set i none) H { heap:=h',gens:=s.gens,drawn:=s.drawn,toks:=s.toks,os:=s.os }:=by
 have nl:∀b o,X.s₀.heap.get? b=some o->b≠X.env.locals:=fun b o e z=>by have h1:=t_ e;have h2:=I.ok.above;rw[z]at h1;exact absurd h1 (Nat.not_lt.mpr h2)
 have cl:∀{c v},s.heap.IsCell c v->h'.IsCell c v:=fun{c v} hc=>by
  have hne:c≠X.env.locals:=by intro z;obtain⟨o,e1,e2⟩:=hc;obtain⟨o',es,ep,ho,r⟩:=hm;rw[z,ho]at e1;cases e1;rw[r.1]at e2;cases e2
  obtain⟨o,e1,e2⟩:=hc;exact⟨o,(sb.2 c hne).trans e1,e2⟩
 refine⟨I.ok,I.os,I.bare,⟨fun b o e n f z=>(sb.2 b (nl b o e)).trans (I.base.keep b o e n f z),fun b o e n f z=>?_,I.base.free,fun b o e z=>?_,I.base.tups,I.base.frzs,I.base.tbls⟩,?_,fun x c hc=>?_,I.free,I.freeC,fun p hp=>?_,fun b o e=>?_,by rw[NC];exact I.len⟩
 .obtain⟨sl,e1⟩:=I.base.slot b o e n f z;exact⟨sl,(sb.2 b (nl b o e)).trans e1⟩
 .obtain⟨o',e1⟩:=I.base.there b o e z;exact⟨o',(sb.2 b (nl b o e)).trans e1⟩
 .obtain⟨m0,hm0,lk⟩:=I.loc;refine⟨_,hn,fun j x v hj hv vis=>?_⟩;have hij:i≠j:=by
   rintro rfl
   rw[PB,if_pos rfl]at hv;split at hv <;> cases hv
  rw[d_ hij]at hv;obtain⟨w,rw',lo⟩:=lk j x v hj hv vis;have hxn:x≠n:=by
   rintro rfl
   exact hij ((OQ (h_.mp hi).1 hN).mp (hi.trans hj.symm))
  refine⟨w,rw',?_⟩;rcases lo with⟨k,e⟩|⟨k,c,hc,ic⟩
  .refine .inl ⟨k,?_⟩;show(if x=n then u else m x)=some w;rw[if_neg hxn,hm.agree hm0];exact e
  .exact .inr ⟨k,c,hc,cl ic⟩
 .obtain⟨v,hv⟩:=I.cell x c hc;exact⟨v,cl hv⟩
 .obtain⟨p1,p2,p3,p4,p5⟩:=I.pin p hp;exact⟨(sb.2 _ p3).trans p1,p2,p3,p4,p5⟩
 .have hb:∀c u,H c=some u->c≠X.env.locals:=fun c u e z=>by rw[z,I.free]at e;cases e
  refine(I.hok b o e).stay (fun c v hc e1=>(sb.2 c ?_).trans e1) (fun _ z=>z) fun _ _ z=>z;rcases hc with z|z
  .rw[z];exact hb b o e
  .exact hb c _ z
theorem JU{i:Nat}{n:Str}{pos:Pos}{v:V}{Q:Unit->g_->Prop}(I:Inv X pz σ H s)(hN:X.N.Nodup)(hi:X.N[i]? = some n)(hv:σ[i]? = some (some v))(hl:X.env.kindOf n=some NameKind.local)(hsc:X.env.scope.names.lookup n=some .local)(q:∀s',Inv X pz (σ.set i none) H s'->Q () s'):z_ M A (OZ X.env n pos) Q E s:=by
 unfold OZ;refine wpAny_onRaise ?_;obtain⟨m,hm,lk⟩:=id I.loc;obtain⟨w,rw',lo⟩:=lk i n v hi hv (.inl hsc);have hmn:m n=some w:=by
  rcases lo with⟨_,e⟩|⟨k,_⟩
  .exact e
  .rw[hl]at k;rcases k with k|k <;> cases k
 refine wpAny_unbindName_local hl hm hmn ?_ fun h' u hn sb=>q _ (Inv.unbind I hN hi hm hn sb fun _ _ _=>trivial);rw[I.ok.kind];rfl
end
def XO(K:W.Frag)(C:Addr)(bm:List b_):Prop:=∃N nm q bs hdct sn sub ab col dd k0 k1 k2 k3 k5 newId,K.lookup C=some (NG nm q C N bs bm hdct sn sub ab col dd k0 k1 k2 k3 k5 newId)
abbrev _root_.L2.Cx.held(X:Cx)(v:b_):Cx:={ X with A:=X.A.mark (some v),calm:=false,xe:=fun _ _=>False }
section
variable{X:Cx}{pz:List (Addr×Obj)}{σ:L2.St}{H H':Hp}{s s':g_}{a C:Addr}{od:Option Addr}
theorem Inv.held(I:Inv X pz σ H s)(v:b_):Inv (X.held v) pz σ H s:=⟨⟨I.ok.mod,I.ok.kind,I.ok.glob,I.ok.blt,I.ok.above,I.ok.inj,I.ok.has,I.ok.cab,(fun h=>nomatch h),I.ok.frames,I.ok.stk,I.ok.exf,I.ok.bs,I.ok.bsz,I.ok.noex,I.ok.exfs,I.ok.funs,I.ok.frf⟩,I.os,I.bare,I.base,I.loc,I.cell,I.free,I.freeC,I.pin,I.hok,I.len⟩
theorem Inv.unheld{v:b_}(hh:X.calm=true->X.A.handled=none)(I:Inv (X.held v) pz σ H s):Inv X pz σ H s:=⟨⟨I.ok.mod,I.ok.kind,I.ok.glob,I.ok.blt,I.ok.above,I.ok.inj,I.ok.has,I.ok.cab,hh,I.ok.frames,I.ok.stk,I.ok.exf,I.ok.bs,I.ok.bsz,I.ok.noex,I.ok.exfs,I.ok.funs,I.ok.frf⟩,I.os,I.bare,I.base,I.loc,I.cell,I.free,I.freeC,I.pin,I.hok,I.len⟩
theorem Fly.noted{E:b_->g_->Prop}{M:RF}{Q:Unit->g_->Prop}(F:Fly X.prog X.w X.stack H s H' a (.ref C) od s')(I:Inv X pz σ H s)(hst:X.stack=X.env::X.outer)(hfr:X.env.frame=some X.env.locals)(q:∀h' oe vs tb ot ts,Inv X pz σ (upd H' a (.ext (ie a C od))) { heap:=h',gens:=s'.gens,drawn:=s'.drawn,toks:=s'.toks,os:=s'.os }->H' a=none->h'.get? a=some oe->oe.cls=.ref C->oe.data=.fields vs->vs[1]? = some (.ref tb)->h'.get? tb=some ot->ot.data=.fields ts->ts[3]? = some Value.none ->Q () { heap:=h',gens:=s'.gens,drawn:=s'.drawn,toks:=s'.toks,os:=s'.os }):z_ M X.A (OT (.ref a) X.env) (fun _ s2=>z_ M X.A (N9 (.ref a) none) Q E s2) E s':=by
 obtain⟨B,hB,hBa,hff,⟨oe,vs,r1,r2,r3,r4,r5⟩,hd,hH⟩:=F.ex;have hHa:H' a=none:=by cases e:H' a with
 |none=>rfl
 |some u=>obtain⟨o',z⟩:=hH a u e;rw[hBa]at z;cases z
 have haf:a∉bQ X.stack:=fun z=>by obtain⟨_,o,e1,nf⟩:=hff.mem z;rw[r1]at e1;cases e1;exact nf vs r4
 have hs1:1<vs.size:=by rcases r5 with z|⟨_,_,_,z,_⟩|⟨_,_,_,_,_,z,_⟩ <;> exact(MV.mp z).1
 have sna:∀b o,s.heap.get? b=some o->b≠a:=fun b o e z=>by rw[z]at e;obtain⟨o',z2⟩:=hd a o e haf;rw[hBa]at z2;cases z2
 have fin:∀(T:Option Addr) h',(∀b,T=some b->B.get? b=none)->Lft (bQ (X.env::X.outer)) a oe vs T Value.none s'.heap h'->Q () { heap:=h',gens:=s'.gens,drawn:=s'.drawn,toks:=s'.toks,os:=s'.os }:=fun T h' hT l=>by
  rw[<-hst]at l;have same:∀b o,(∃o',B.get? b=some o')->s'.heap.get? b=some o->h'.get? b=some o:=fun b o ⟨o',e⟩ h=>by refine l.keep b o (fun z=>?_) (fun z=>by rw[z,hBa]at e;cases e) (fun z=>by rw[hT b z]at e;cases e) h;rw[(hff.mem z).1]at e;cases e
  obtain⟨tb,ot,ts,t1,t2,t3,t4,t5,t6⟩:=l.obj;have hok1:bU X.prog X.w H' h':=fun b u e=>by
   refine(F.hok b u e).stay (fun c v hc e1=>same c v ?_ e1) (fun _ z=>z) fun _ _ z=>z;rcases hc with hc|hc
   .rw[hc];exact hH b u e
   .exact hH c _ hc
  have hne:∀b u,H' b=some u->b≠a:=fun b u e z=>by rw[z,hHa]at e;cases e
  have hok2:bU X.prog X.w (upd H' a (.ext (ie a C od))) h':=fun b u e=>by
   by_cases hb:b=a
   .subst hb;rw[bT]at e;cases e;exact⟨⟨_,_,t3,r2,r3,rfl⟩,⟨_,t3⟩,fun h1 h2 ⟨oe',vs',z1,z2,z3,z4⟩ k=>⟨oe',vs',k _ z1,z2,z3,z4⟩⟩
   .rw[aZ hb]at e;refine(hok1 b u e).stay (fun _ _ _ z=>z) (fun c z=>?_) fun c xs z=>?_
    .rw[aZ (hne c _ z)];exact z
    .rw[aZ (hne c _ z)];exact z
  have I2:Inv X pz σ (upd H' a (.ext (ie a C od))) { heap:=h',gens:=s'.gens,drawn:=s'.drawn,toks:=s'.toks,os:=s'.os }:=by
   refine I.call' (ch:=[]) F.os ⟨fun b o e n f z=>?_,fun b o e n f z=>?_,fun b o e n z=>?_,fun b o e z=>?_,fun b xs e=>?_,fun b o u e=>?_,fun b ps e=>?_⟩ hok2 F.bare fun b z=>absurd z (by simp)
   .exact same b o (hd b o e f) (F.un.keep b o e n f z)
   .obtain⟨sl,e1⟩:=F.un.slot b o e n f z;obtain⟨_,o2,e2,nf⟩:=hff.mem f;rw[e1]at e2;cases e2;obtain⟨sl2,e3⟩:=l.slot b _ e1 nf;exact⟨sl2,e3⟩
   .rw[aZ (sna b o e)];exact F.un.free b o e n z
   .obtain⟨o1,e1⟩:=F.un.there b o e z;by_cases f:b∈bQ X.stack
    .obtain⟨_,o2,e2,nf⟩:=hff.mem f;obtain⟨sl,e3⟩:=l.slot b _ e2 nf;exact⟨_,e3⟩
    .exact⟨o1,same b o1 (hd b o e f) e1⟩
   .have:=F.un.tups b xs e;rw[aZ (hne b _ this)];exact this
   .have:=F.un.frzs b o u e;rw[aZ (hne b _ this)];exact this
   .obtain⟨mo,this⟩:=F.un.tbls b ps e;exact⟨mo,by rw[aZ (hne b _ this)];exact this⟩
  exact q h' _ _ tb ot ts I2 hHa t3 r2 rfl (L_ hs1) t4 t5 t6
 have nt2:z_ M X.A (OT (.ref a) X.env) (fun _ s2=>n8 a s2.heap/\z_ M X.A (N9 (.ref a) none) Q E s2) E s'->z_ M X.A (OT (.ref a) X.env) (fun _ s2=>z_ M X.A (N9 (.ref a) none) Q E s2) E s':=fun z=>MS z (fun _ _ z=>z.2) fun _ _ z=>z;have hff2:=hff;rw[hst]at hff2;rcases r5 with z|⟨T,oT,ts,z1,z2,z3,z4,z5,z6⟩|⟨l,T,oT,ts,zl,z1,z2,z3,z4,z5,z6⟩
 .exact nt2 (oV (T:=none) (by rw[I.ok.frames,hst]) hff2 hfr r1 r4 (fl:=none) (.inl ⟨z,rfl⟩) fun h' l=>fin none h' (fun b e=>nomatch e) l)
 .exact nt2 (oV (T:=some T) (by rw[I.ok.frames,hst]) hff2 hfr r1 r4 (fl:=none) (.inr (.inl ⟨T,oT,ts,rfl,z1,z3,z4,z5,z6⟩)) fun h' l=>fin (some T) h' (fun b e=>by cases e;exact z2) l)
 .have hl:l=X.env.locals:=by unfold jZ at zl;rw[hst]at zl;exact(C_ (hfr.symm.trans (show X.env.frame=some l from zl))).symm
  subst hl;exact nt2 (oV (T:=some T) (by rw[I.ok.frames,hst]) hff2 hfr r1 r4 (fl:=none) (.inr (.inr ⟨T,oT,ts,rfl,z1,z3,z4,z5,z6⟩)) fun h' l=>fin (some T) h' (fun b e=>by cases e;exact z2) l)
end
section
variable{X:Cx}{pz:List (Addr×Obj)}{σ:L2.St}{H H':Hp}{s s':g_}{a C T:Addr}{od:Option Addr}
theorem Il{i:Nat}{n xT:Str}{bm bmT:List b_}{np hpos:Pos}{b₀:Stmt}{suite:List Stmt}{t:TS}{D:Ends}{rest:List ExceptHandler}(F:Fly X.prog X.w X.stack H s H' a (.ref C) od s')(I:Inv X pz σ H s)(hst:X.stack=X.env::X.outer)(hfr:X.env.frame=some X.env.locals)(hcalm:X.calm=true)(cT:X.mg xT=some (.ref T))(oT:XO X.K T bmT)(hbT:bmT.contains (Value.type "BaseException")=true)(oC:XO X.K C bm)(hit:(Value.ref C::bm).contains (.ref T)=true)(hg:Gl X xT)(hN:X.N.Nodup)(hi:X.N[i]? = some n)(hl:X.env.kindOf n=some NameKind.local)(hsc:X.env.scope.names.lookup n=some .local)(hs:c6 (X.held (.ref a)) (b₀::suite) t)(q:H' a=none->t { nx:=fun σ' H2=>D.nx (σ'.set i none) H2,rt:=fun _ _=>False } (σ.set i (some (.ref a))) (upd H' a (.ext (ie a C od))))(hdb:(xT==("__debug__" : Str))=false:=by decide):z_ (E_ X.prog X.w) X.A (OT (.ref a) X.env) (fun _ s₂=>z_ (E_ X.prog X.w) X.A (N9 (.ref a) none) (fun _ s₃=>z_ (E_ X.prog X.w) X.A (handleBy (.ref a) X.env (.ExceptHandler (some (.Name xT np)) (some n) (b₀::suite) hpos::rest)) (SP X pz D) X.xe s₃) X.xe s₂) X.xe s':=by
 refine F.noted I hst hfr fun h' oe vs tb ot ts I1 hHa e1 e2 e3 e4 e5 e6 e7=>?_;refine wpAny_handleBy_cons ?_ (by intro z;cases z);have Ih:=Inv.held I1 (.ref a);refine codeAny_handlers_test (l7 (X:=X.held (.ref a)) Ih hg cT ?_ hdb);obtain⟨N1,nm1,q1,bs1,hd1,sn1,sub1,ab1,col1,dd1,a0,a1,a2,a3,a5,nw1,z1⟩:=oC;obtain⟨N2,nm2,q2,bs2,hd2,sn2,sub2,ab2,col2,dd2,c0,c1,c2,c3,c5,nw2,z2⟩:=oT;refine LJ (I1.kIn _ _ z1) (I1.kIn _ _ z2) e1 e2 hbT ?_;rw[hit,if_pos rfl];refine codeAny_handlers_suite_as ?_;unfold N9;refine f_ (M0 e1 e3 e4 ?_);rw[if_pos (by rfl)];have h3s:3<ts.size:=(MV.mp e7).1;refine NS e5 e6 h3s ?_;have I2:Inv X pz σ (upd H' a (.ext (ie a C od))) { heap:=h'.update tb (Mz fun v=>v.setIfInBounds 3 Value.none),gens:=s'.gens,drawn:=s'.drawn,toks:=s'.toks,os:=s'.os }:=by
  refine I1.kept fun b u e=>?_;show(h'.update tb _).get? b=some u;by_cases hb:b=tb
  .subst hb;have e5':h'.get? b=some ot:=e5;have:u=ot:=by rw[show h'.get? b=some u from e]at e5';cases e5';rfl
   subst this;have mf:Mz (fun v=>v.setIfInBounds 3 Value.none) u=u:=by
    obtain⟨c,d,da,sl⟩:=u;have:da=.fields ts:=e6;subst this;show({ cls:=c,dict:=d,data:=.fields (ts.setIfInBounds 3 Value.none),slots:=sl }:Obj)=_;have:ts.setIfInBounds 3 Value.none=ts:=by
     refine Q3 fun j=>?_;by_cases hj:3=j
     .subst hj;rw[L_ h3s,e7]
     .rw[Array.getElem?_setIfInBounds_ne hj]
    rw[this]
   have nf:(Mz (fun v=>v.setIfInBounds 3 Value.none) u).isFreed=false:=by obtain⟨c,d,da,sl⟩:=u;have:da=.fields ts:=e6;subst this;rfl
   have:=M4 (Mz fun v=>v.setIfInBounds 3 Value.none) e5' nf;rw[mf]at this;exact this
  .rw[Nj _ _ _ _ hb];exact e
 refine oY (X:=X.held (.ref a)) (i:=i) (v:=.ref a) (Inv.held I2 (.ref a)) hN hi (.inl hsc) rfl (fun s3 I3=>?_) (.inr hsc);refine MS (hs pz s3 _ _ _ I3 (q hHa)) (fun f s4 h4=>?_) fun _ _ z=>MY z;have fin:∀{σ':L2.St}{H2:Hp} ,Inv (X.held (.ref a)) pz σ' H2 s4->D.nx (σ'.set i none) H2->f=Flow.next->z_ (E_ X.prog X.w) X.A (do
   bindName X.env n Value.none
   OZ X.env n hpos) (fun _ s₅=>SP X pz D f s₅) X.xe s4:=fun{σ' H2} I4 k hf=>by
  subst hf;have I4':Inv X pz σ' H2 s4:=Inv.unheld I.ok.hd I4;refine f_ (wpAny_bindName (oY (i:=i) (v:=.non) I4' hN hi (.inl hsc) rfl (fun s5 I5=>?_) (.inr hsc)));have hlen:i<σ'.length:=by rw[I4'.len];exact(h_.mp hi).1
  refine JU (v:=.non) I5 hN hi (by rw[o_ hlen]) hl hsc fun s6 I6=>?_;rw[List.set_set]at I6;exact⟨_,H2,I6,k⟩
 cases f with
|next=>obtain⟨σ',H2,I4,k⟩:=h4;exact fin I4 k rfl
|brk=>obtain⟨σ',H2,I4,k⟩:=h4;exact k.elim
|cont=>obtain⟨σ',H2,I4,k⟩:=h4;exact k.elim
|ret u=>obtain⟨v,σ',H2,I4,_,k⟩:=h4;exact k.elim
end
theorem SI.cx{X X':Cx}{g:GE}{m:List Md}{r:aj}{G:GH}{st:L2.St}{H:Hp}(s:SI X g m r G st H)(h:X'.K=X.K):SI X' g m r G st H:=by
 constructor
 .rw[h];exact s.gok
 .exact s.old
 .exact s.ge
 .exact s.gf
 .exact s.lm
 .exact s.lr
 .rw[h];exact s.sh
 .rw[h];exact s.ow
 .rw[h];exact s.bw
 .exact s.dis
 .exact s.lk
theorem SI.unset{X:Cx}{g:GE}{m:List Md}{r:aj}{G:GH}{st:L2.St}{H:Hp}{i:Nat}(s:SI X g m r G st H)(hm:m[i]? = some .sh):SI X g m (r.set i none) G (st.set i none) H:=by
 have key:∀{j:Nat}{d:D},(r.set i none)[j]? = some (some d)->i≠j/\r[j]? = some (some d):=fun{j d} h=>by
  have hij:i≠j:=by
   rintro rfl
   rw[PB,if_pos rfl]at h;split at h <;> cases h
  rw[d_ hij]at h;exact⟨hij,h⟩
 refine⟨s.gok,s.old,s.ge,s.gf,by rw[NC];exact s.lm,by rw[NC,NC];exact s.lr,fun j d h hj=>?_,fun j d h hj=>?_,fun j d h hj=>?_,fun j k a d e hjk h1 h2 m1 m2 q1 q2=>?_,fun j o h hj=>?_⟩
 .obtain⟨hij,h⟩:=key h;rw[d_ hij];exact s.sh j d h hj
 .obtain⟨hij,h⟩:=key h;rw[d_ hij];exact s.ow j d h hj
 .obtain⟨hij,h⟩:=key h;rw[d_ hij];exact s.bw j d h hj
 .obtain⟨z1,h1⟩:=key h1;obtain⟨z2,h2⟩:=key h2;rw[d_ z1]at q1;rw[d_ z2]at q2;exact s.dis j k a d e hjk h1 h2 m1 m2 q1 q2
 .have hij:i≠j:=by rintro rfl;rw[hm]at hj;cases hj
  obtain⟨l1,l2⟩:=s.lk j o h hj;exact⟨by rw[d_ hij];exact l1,fun d hd=>l2 d (by rw[d_ hij]at hd;exact hd)⟩
abbrev _root_.L2.Cx.tr(X:Cx)(ps:List (Addr×Obj))(E:b_->g_->Prop):Cx:={ X with pn:=ps,xe:=E }
section
variable{X:Cx}{pz pins':List (Addr×Obj)}{σ:L2.St}{H:Hp}{s:g_}{E:b_->g_->Prop}
theorem Inv.tr(I:Inv X pz σ H s)(E:b_->g_->Prop):Inv (X.tr (X.pn++pz) E) [] σ H s:=⟨⟨I.ok.mod,I.ok.kind,I.ok.glob,I.ok.blt,I.ok.above,I.ok.inj,I.ok.has,I.ok.cab,I.ok.hd,I.ok.frames,I.ok.stk,I.ok.exf,I.ok.bs,I.ok.bsz,I.ok.noex,I.ok.exfs,I.ok.funs,I.ok.frf⟩,I.os,I.bare,I.base,I.loc,I.cell,I.free,I.freeC,fun p hp=>I.pin p (by rw[ML]at hp;exact hp),I.hok,I.len⟩
theorem Inv.untr(I:Inv (X.tr (X.pn++pz) E) pins' σ H s):Inv X pz σ H s:=⟨⟨I.ok.mod,I.ok.kind,I.ok.glob,I.ok.blt,I.ok.above,I.ok.inj,I.ok.has,I.ok.cab,I.ok.hd,I.ok.frames,I.ok.stk,I.ok.exf,I.ok.bs,I.ok.bsz,I.ok.noex,I.ok.exfs,I.ok.funs,I.ok.frf⟩,I.os,I.bare,I.base,I.loc,I.cell,I.free,I.freeC,fun p hp=>I.pin p (MQ _ hp),I.hok,I.len⟩
theorem SP.untr{D:Ends}{f:Flow}(h:SP (X.tr (X.pn++pz) E) [] D f s):SP X pz D f s:=by cases f with
|next=>obtain⟨σ',H',I,q⟩:=h;exact⟨σ',H',Inv.untr I,q⟩
|brk=>obtain⟨σ',H',I,q⟩:=h;exact⟨σ',H',Inv.untr I,q⟩
|cont=>obtain⟨σ',H',I,q⟩:=h;exact⟨σ',H',Inv.untr I,q⟩
|ret u=>obtain⟨v,σ',H',I,r,q⟩:=h;exact⟨v,σ',H',Inv.untr I,r,q⟩
end
def kE(K:W.Frag)(T:Addr)(hit:Str->Bool):Prop:=∀nm C,hit nm=true->XN K nm C->∃bm,XO K C bm/\(Value.ref C::bm).contains (.ref T)=true
def L5:D->Option Str
|.obj 0 ((_,.str nm)::_)=>some nm
|_=>none
def fL(m1:List Md)(i:Nat)(hit:Str->Bool)(fb fh:FS):FS:=fun r=>match fb r with
|.nx r'=>.nx (forget m1 r')
|.rt d=>.rt d
|.exc x r'=>(match L5 x with
 |some nm=>if hit nm=true then(match fh (r'.set i (some x))with
  |.nx r2=>.nx (r2.set i none)
  |_=>.stuck)else .stuck
 |none=>.stuck)
|_=>.stuck
section
variable{X:Cx}{g:GE}{ro:Bool}{m m1 mb:List Md}{T:Addr}{fb fh:FS}
theorem xZ{n xT:Str}{bmT:List b_}{np hpos pos:Pos}{body suite:List Stmt}{b₀:Stmt}{hit:Str->Bool}(i:Nat)(hst:X.stack=X.env::X.outer)(hfr:X.env.frame=some X.env.locals)(hcalm:X.calm=true)(cT:X.mg xT=some (.ref T))(oT:XO X.K T bmT)(hbT:bmT.contains (Value.type "BaseException")=true)(hk:kE X.K T hit)(hg:Gl X xT)(hN:X.N.Nodup)(hi:X.N[i]? = some n)(hl:X.env.kindOf n=some NameKind.local)(hsc:X.env.scope.names.lookup n=some .local)(hb:∀ps E,cZ (X.tr ps E) g ro [] m body fb m1)(hs:∀a,cZ (X.held (.ref a)) g ro [] (b4 m1) (b₀::suite) fh (b4 m1))(hdb:(xT==("__debug__" : Str))=false:=by decide):SS X g ro mb m (.Try body [.ExceptHandler (some (.Name xT np)) (some n) (b₀::suite) hpos] [] [] pos) (fL m1 i hit fb fh) (b4 m1):=by
 have hml:(b4 m1).length=m.length:=by rw[b4,l_];exact(hb [] fun _ _=>False).1
 refine⟨hml,fun pz s σ H D I ⟨r,G,si,q⟩=>?_⟩;refine wpAny_Try_except ?_;generalize hE:(fun(e:b_)(s₁:g_)=>z_ (E_ X.prog X.w) X.A (OT e X.env) (fun _ s₂=>z_ (E_ X.prog X.w) X.A (N9 e none) (fun _ s₃=>z_ (E_ X.prog X.w) X.A (handleBy e X.env [.ExceptHandler (some (.Name xT np)) (some n) (b₀::suite) hpos]) (SP X pz D) X.xe s₃) X.xe s₂) X.xe s₁)=E';have key:bG (X.tr (X.pn++pz) E') g ro m1 [] G { nx:=D.nx,rt:=D.rt } (fb r):=by unfold fL at q;cases e:fb r with
 |nx r'=>rw[e]at q;exact fun σ' G' H' le si'=>q σ' G' H' le (SI.cx (X':=X) si' rfl).forget
 |rt d=>rw[e]at q;exact q
 |bk r'=>rw[e]at q;exact q.elim
 |ct r'=>rw[e]at q;exact q.elim
 |stuck=>rw[e]at q;exact q
 |exc x r'=>
   rw[e]at q;intro pins' ev s' σ' G' H' le si' I' ex;obtain⟨pins1,s1,H1,a,C,od,nm,ds,rfl,rfl,xn,xf,I1,fl⟩:=ex;show E' (.ref a) s';rw[<-hE];replace q:bG X g ro (b4 m1) mb G D (if hit nm=true then(match fh (r'.set i (some (xD nm ds)))with
   |.nx r2=>.nx (r2.set i none)
   |_=>.stuck)else .stuck):=q
   split at q
   .rename_i hh;obtain⟨bm,oC,hc⟩:=hk nm C hh xn;refine Il (i:=i) (D:=D) fl (Inv.untr I1) hst hfr hcalm cT oT hbT oC hc hg hN hi hl hsc (hs a).2 (fun hHa=>?_) hdb;have hGa:G' a=none:=si'.gok.isN hHa;have w:Grow X.K G' H' (gset G' a (xD nm ds)) (upd H' a (.ext (ie a C od))):=by
     have ge:∀b d,G' b=some d->gset G' a (xD nm ds) b=some d:=fun b d e=>by
      have:b≠a:=by rintro rfl;rw[hGa]at e;cases e
      rw[dy this];exact e
     refine⟨fun b d e=>?_,fun b o e=>?_,ge,fun b h=>?_⟩
     .by_cases hb:b=a
      .subst hb;rw[dc]at e;cases e;exact .exc bT xn (xf.mono ge)
      .rw[dy hb]at e;exact(si'.gok b d e).mono ge fun o z=>by rw[aZ hb];exact z
     .have:b≠a:=by rintro rfl;rw[hHa]at e;cases e
      rw[aZ this];exact e
     .have:b≠a:=by rintro rfl;exact h hHa
      exact dy this
    have si2:=((SI.cx (X':=X) si' rfl).grow w).set i (.ref dc);have hms:(b4 m1)[i]? = some .sh:=by
     have hlen:i<(b4 m1).length:=by rw[si'.lm,I'.len];exact(h_.mp hi).1
     have hlen':i<m1.length:=by rw[b4,l_]at hlen;exact hlen
     unfold b4;rw[x_,n_ hlen'];rfl
    have hset:(b4 m1).set i .sh=b4 m1:=by
     refine PC fun j=>?_;by_cases hj:i=j
     .subst hj;rw[o_ (h_.mp hms).1,hms]
     .rw[d_ hj]
    rw[hset]at si2;refine⟨_,_,SI.cx si2 rfl,?_⟩;cases e2:fh (r'.set i (some (xD nm ds)))with
   |nx r2=>rw[e2]at q;exact fun σ2 G2 H2 le2 si3=>q (σ2.set i none) G2 H2 (le.trans (aM.trans w.ge le2)) (SI.unset (SI.cx si3 rfl) hms)
   |rt d=>rw[e2]at q;exact q.elim
   |bk _=>rw[e2]at q;exact q.elim
   |ct _=>rw[e2]at q;exact q.elim
   |exc _ _=>rw[e2]at q;exact q.elim
   |stuck=>rw[e2]at q;exact q.elim
   .exact q.elim
 refine MS ((hb (X.pn++pz) E').2 [] s σ H _ (Inv.tr I E') ⟨r,G,SI.cx si rfl,key⟩) (fun f s1 h1=>?_) fun e s1 h1=>?_
 .have h2:=SP.untr h1;cases f with
 |next=>obtain⟨σ',H',I',k⟩:=h2;exact O3 ⟨σ',H',I',k⟩
 |brk=>obtain⟨σ',H',I',k⟩:=h2;exact k.elim
 |cont=>obtain⟨σ',H',I',k⟩:=h2;exact k.elim
 |ret u=>exact h2
 .exact h1
end
theorem Gy:builtinKind "BaseException.__getattribute__" = some .slot:=by kernel_rfl
theorem Ix:splitId "BaseException.__getattribute__" = some ("BaseException","__getattribute__"):=by decide+kernel
theorem IQ:plainId "BaseException.__getattribute__" = true:=by kernel_rfl
theorem Hr:Rw (.builtin "BaseException.__getattribute__")=pure (.type "wrapper_descriptor"):=by kernel_rfl
section
variable{prog:D_}{w:Mu}{A:Mw}{E:b_->g_->Prop}{s:g_}{nm q:Str}{C N a:Addr}{bs bm:List b_}{hdct:Bool}{sn:List Str}{sub:List b_}{ab:Bool}{col:Option Bool}{dd:Option Addr}{k0 k1 k2 k3 k5:Option b_}{newId:String}{oe:Obj}
theorem Ax{T:String}{Q:Bool->g_->Prop}(hC:s.heap.get? C=some (NG nm q C N bs bm hdct sn sub ab col dd k0 k1 k2 k3 k5 newId))(he:s.heap.get? a=some oe)(hc:oe.cls=.ref C)(hq:Q ((Value.ref C::bm).contains (.type T)) s):z_ (E_ prog w) A (Sb (.ref a) (.type T)) Q E s:=by unfold Sb;refine f_ (Oq he ?_);rw[hc];obtain⟨hh,hg,hdr,ht,ho⟩:=s;exact O_ hC hq
theorem Im{v:b_}{Q:Unit->g_->Prop}(hC:s.heap.get? C=some (NG nm q C N bs bm hdct sn sub ab col dd k0 k1 k2 k3 k5 newId))(he:s.heap.get? a=some oe)(hc:oe.cls=.ref C)(hb:bm.contains (Value.type "BaseException")=true)(hq:Q () s):z_ (E_ prog w) A (P3 "BaseException.__getattribute__" ⟨[.ref a,v],[]⟩) Q E s:=by unfold P3;simp only[Gy,Ix];refine f_ (Ax hC he hc ?_);rw[OC,hb,Ql,if_neg (by simp)];have:=F.args_bexc_ga (.ref a) v;unfold argsOk at this;revert this;generalize Manifest.signature? "BaseException.__getattribute__" = sg;intro this;cases sg with
|none=>exact r_ hq
|some sig=>have e:Po "BaseException.__getattribute__" sig ⟨[.ref a,v],[]⟩=pure ():=this;show z_ _ _ (Po "BaseException.__getattribute__" sig ⟨[.ref a,v],[]⟩) _ _ _;rw[e];exact r_ hq
theorem GN{v:b_}{Q:b_->g_->Prop}(hC:s.heap.get? C=some (NG nm q C N bs bm hdct sn sub ab col dd k0 k1 k2 k3 k5 newId))(he:s.heap.get? a=some oe)(hc:oe.cls=.ref C)(hb:bm.contains (Value.type "BaseException")=true)(h:z_ (E_ prog w) A.in1 (Oy.«object.__getattribute__» ⟨[.ref a,v],[]⟩) (fun fin s'=>∃u,fin=.done (.ret u)/\Q u s') E s):z_ (E_ prog w) A (call (.builtin "BaseException.__getattribute__") [.ref a,v]) Q E s:=by refine QX (QG IQ F.entry_bexc_ga (Im hC he hc hb ?_));refine MS h (fun fin s' ⟨u,e,hq⟩=>?_) fun e s' z=>z;subst e;exact hq
theorem Fz{K:W.Frag}{v:b_}{fill expr:Bool}{Q:b_->g_->Prop}(kin:K.In s.heap)(hC:s.heap.get? C=some (NG nm q C N bs bm hdct sn sub ab col dd k0 k1 k2 k3 k5 newId))(he:s.heap.get? a=some oe)(hc:oe.cls=.ref C)(hb:bm.contains (Value.type "BaseException")=true)(g1:QH K (.ref C) "__getattribute__" = some (some (.builtin "BaseException.__getattribute__")))(g2:QH K (.ref C) "__getattr__" = some none)(h:z_ (E_ prog w) A.in1 (Oy.«object.__getattribute__» ⟨[.ref a,v],[]⟩) (fun fin s'=>∃u,fin=.done (.ret u)/\S9 u=pure u/\Q u s') (fun _ _=>False) s):z_ (E_ prog w) A (getAttrBy (.ref a) v fill expr) Q E s:=by
 unfold getAttrBy;refine Nc (f_ (Oq he ?_));rw[hc];refine f_ (Ro kin g1 _ _ _ _ (fun b o e=>e) ?_);show z_ _ _ (if (onTheHeap (Value.ref C)&&(Value.builtin "BaseException.__getattribute__" == Value.builtin "object.__getattribute__"))=true then _ else _) _ _ _;rw[if_neg (by intro z;rw[show(Value.builtin "BaseException.__getattribute__" == Value.builtin "object.__getattribute__")=false from by decide+kernel,Bool.and_false]at z;cases z)];unfold getAttrByItsOwn hookBefore;rw[if_pos (by rfl)];refine f_ (Ro kin g2 _ _ _ _ (fun b o e=>e) ?_);refine f_ (wpAny_attempt (Nc ?_));unfold callGetattribute;have hx:(expr&&onTheHeap (Value.builtin "BaseException.__getattribute__"))=false:=by cases expr <;> rfl
 rw[hx,if_neg i_];unfold boundAndCalled bindSpecial;rw[Hr];refine f_ (f_ (r_ ?_));rw[if_pos (by decide)];refine r_ ?_;refine GN hC he hc hb (MS h (fun fin s' ⟨u,e,ho,hq⟩=>⟨u,e,?_⟩) fun _ _ z=>MY z);show z_ _ _ (S9 u) _ _ _;rw[ho];exact r_ hq
end
theorem Gz:builtinKind "getset_descriptor.__get__" = some .slot:=by kernel_rfl
theorem Iy:splitId "getset_descriptor.__get__" = some ("getset_descriptor","__get__"):=by decide+kernel
theorem IR:plainId "getset_descriptor.__get__" = true:=by kernel_rfl
theorem HE:entryFor table "getset_descriptor.__get__" = some Oy.«getset_descriptor.__get__»:=by kernel_rfl
theorem HF:entryFor table "object.__class__" = some Oy.«object.__class__»:=by kernel_rfl
theorem Hs:Rw (.builtin "object.__class__")=pure (.type "getset_descriptor"):=by kernel_rfl
theorem Fx(a b c:b_):argsOk "getset_descriptor.__get__" ⟨[a,b,c],[]⟩:=by kernel_rfl
theorem IS:plainId "object.__class__" = true:=by kernel_rfl
theorem ES:P_ (.builtin "object.__class__")=pure (F_ "__class__",Value.type "object"):=by kernel_rfl
theorem Fd:isSubtype (.type "getset_descriptor") (.type "getset_descriptor")=pure true:=by rw[isSubtype_type];kernel_rfl
section
variable{prog:D_}{w:Mu}{A:Mw}{E:b_->g_->Prop}{s:g_}{nm q:Str}{C N a:Addr}{bs bm:List b_}{hdct:Bool}{sn:List Str}{sub:List b_}{ab:Bool}{col:Option Bool}{dd:Option Addr}{k0 k1 k2 k3 k5:Option b_}{newId:String}{oe:Obj}
theorem HM{Q:b_->g_->Prop}(hC:s.heap.get? C=some (NG nm q C N bs bm hdct sn sub ab col dd k0 k1 k2 k3 k5 newId))(he:s.heap.get? a=some oe)(hc:oe.cls=.ref C)(hb:bm.contains (Value.type "object")=true)(hq:Q (.ref C) s):z_ (E_ prog w) A (call (.builtin "getset_descriptor.__get__") [.builtin "object.__class__",.ref a,.ref C]) Q E s:=by
 refine QX (QG IR HE ?_);unfold P3;simp only[Gz,Iy];unfold Sb;rw[Hs];refine f_ (f_ (r_ ?_));rw[Fd];refine r_ ?_;rw[if_neg (by decide)];have this:=Fx (.builtin "object.__class__") (.ref a) (.ref C);unfold argsOk at this;revert this;generalize Manifest.signature? "getset_descriptor.__get__" = sg;intro this;have body:z_ (E_ prog w) A.in1 (Oy.«getset_descriptor.__get__» ⟨[.builtin "object.__class__",.ref a,.ref C],[]⟩) (fun fin s'=>match fin with
  |Fin.done f=>(match (Except.ok f:Te)with|.ok (.ret v)=>Q v s'|.ok _=>False|.error e=>E e s')
  |Fin.again c'=>c'.quiet=true/\Qb (E_ prog w) A c' (fun r s'=>match r with|.ok (.ret v)=>Q v s'|.ok _=>False|.error e=>E e s') s') (fun e s'=>E e s') s:=by
  unfold Oy.«getset_descriptor.__get__» Q5 QI;refine f_ ?_;show z_ _ _ (pure ((Value.builtin "object.__class__",some (Value.ref a),some (Value.ref C)):b_×Option b_×Option b_)) _ _ _;refine r_ ?_;unfold QQ P4
  dsimp only
  rw[ES];refine f_ (f_ (r_ (f_ (Ax hC he hc ?_))));rw[OC,hb,Ql,if_neg (by simp)];refine r_ (r_ ⟨plainId_quiet IS _,?_⟩);refine codeAny_builtin HF ?_;unfold Oy.«object.__class__» shownTypeOf;refine f_ (f_ (Oq he ?_));rw[hc,if_neg (by intro z;cases z)];exact r_ (r_ hq)
 cases sg with
|none=>exact r_ body
|some sig=>have e:Po "getset_descriptor.__get__" sig ⟨[.builtin "object.__class__",.ref a,.ref C],[]⟩=pure ():=this;show z_ _ _ (Po "getset_descriptor.__get__" sig ⟨[.builtin "object.__class__",.ref a,.ref C],[]⟩) _ _ _;rw[e];exact r_ body
theorem HK{K:W.Frag}{tk:Tok}{Q:b_->g_->Prop}(kin:K.In s.heap)(hC:s.heap.get? C=some (NG nm q C N bs bm hdct sn sub ab col dd k0 k1 k2 k3 k5 newId))(he:s.heap.get? a=some oe)(hc:oe.cls=.ref C)(hb:bm.contains (Value.type "object")=true)(g1:QH K (.ref C) "__class__" = some (some (.builtin "object.__class__")))(g2:S_ K (.builtin "object.__class__") "__get__" = some (some (.builtin "getset_descriptor.__get__")))(g3:takesIn K (.builtin "object.__class__")=some true)(hq:Q (.ref C) s):z_ (E_ prog w) A (Oy.«object.__getattribute__» ⟨[.ref a,.str "__class__" tk],[]⟩) (fun fin s'=>∃u,fin=.done (.ret u)/\S9 u=pure u/\Q u s') E s:=by unfold Oy.«object.__getattribute__»;refine f_ ?_;show z_ _ _ (pure ((Value.ref a,[Value.str "__class__" tk]):b_×List b_)) _ _ _;refine r_ ?_;show z_ _ _ (RX (Value.str "__class__" tk) >>= _) _ _ _;refine f_ ?_;show z_ _ _ (pure (F_ "__class__")) _ _ _;refine r_ (f_ (Oq he ?_));rw[hc];refine f_ ?_;unfold Builtin.ObjectAttr.find;refine f_ (Ro kin g1 _ _ _ _ (fun b o e=>e) ?_);refine f_ ?_;show z_ _ _ (specialOf (Value.builtin "object.__class__") (F_ "__get__")) _ _ _;refine looks_specialIn kin g2 _ _ _ _ (fun b o e=>e) ?_;refine f_ ?_;show z_ _ _ (RA (Value.builtin "object.__class__") >>= _) _ _ _;refine f_ (looks_takesIn kin g3 _ _ _ _ (fun b o e=>e) ?_);rw[if_pos rfl];refine r_ (f_ (R9 (r_ ?_)));unfold Ss;show z_ _ _ (Pv [Value.builtin "object.__class__"] (call (Value.builtin "getset_descriptor.__get__") [Value.builtin "object.__class__",Value.ref a,Value.ref C]) >>= fun v=>ret v) _ _ _;refine f_ (Nc (HM hC he hc hb ?_));exact r_ ⟨_,rfl,rfl,hq⟩
end
structure XA(K:W.Frag)(C:Addr)(bm:List b_):Prop where
 ob:XO K C bm
 be:bm.contains (Value.type "BaseException")=true
 bo:bm.contains (Value.type "object")=true
 ga:QH K (.ref C) "__getattribute__" = some (some (.builtin "BaseException.__getattribute__"))
 gn:QH K (.ref C) "__getattr__" = some none
 gc:QH K (.ref C) "__class__" = some (some (.builtin "object.__class__"))
 gg:S_ K (.builtin "object.__class__") "__get__" = some (some (.builtin "getset_descriptor.__get__"))
 gt:takesIn K (.builtin "object.__class__")=some true
theorem HS{K:W.Frag}{a C:Addr}{od:Option Addr}{bm:List b_}(x:XA K C bm):KitX K (.ref a) (.ref C) (ie a C od):=by
 obtain⟨N1,nm1,q1,bs1,hd1,sn1,sub1,ab1,col1,dd1,a0,a1,a2,a3,a5,nw1,z1⟩:=x.ob;refine⟨fun M h kin hx A Q E s hk hq=>?_,fun M h kin hx A Q E s hk hq=>?_,fun h tp dd its n sl kin ht=>?_,fun{prog w A E Q s} kin hx hq=>?_⟩
 .obtain⟨oe,vs,e1,e2,_⟩:=hx;exact Oq (hk _ _ e1) (by rw[e2];exact hq)
 .obtain⟨hh,hg,hdr,ht,ho⟩:=s;exact ks_wpAny_isType_cls (hk _ _ (kin _ _ z1)) rfl hq
 .cases hb:(Value.ref C==Value.ref tp)with
 |false=>rfl
 |true=>have e:Value.ref C=Value.ref tp:=No hb;cases e;have:=kin _ _ z1;rw[ht]at this;have h2:=congrArg Obj.data (C_ this);cases h2
 .obtain⟨oe,vs,e1,e2,_⟩:=hx;unfold getAttr?;refine f_ (wpAny_mkText ?_);unfold getAttrBy?;refine f_ (wpAny_attempt (Fz kin (kin _ _ z1) e1 e2 x.be x.ga x.gn ?_));exact HK (s:={ heap:=s.heap,gens:=s.gens,drawn:=s.drawn,toks:=s.toks+1,os:=s.os }) kin (kin _ _ z1) e1 e2 x.bo x.gc x.gg x.gt (r_ hq)
def cN(tab:Str->Option Bool):D->Option D
|.non=>some (.bl false)
|.obj 0 ((_,.str nm)::_)=>(tab nm).map .bl
|_=>none
structure IsxOk(K:W.Frag)(c:b_)(tab:Str->Option Bool):Prop where
 no:Q6 K (.type "NoneType") c=some false
 ex:∀nm b C,tab nm=some b->XN K nm C->∃bm,XA K C bm/\Q6 K (.ref C) c=some b
section
variable{X:Cx}{g:GE}{m:List Md}{e:Expr}{f:FE}{pos p p2:Pos}
theorem Ij{c:b_}{cv:V}(hcv:∀u,am cv u->u=c):dw X (.builtin "isinstance") (fun xs H Q=>∃x b,xs=[x,cv]/\((x=.non/\Q6 X.K (.type "NoneType") c=some b)\/∃a C od bm,x=.ref a/\H a=some (.ext (ie a C od))/\XA X.K C bm/\Q6 X.K (.ref C) c=some b)/\Q (.bl b) H):=by
 intro pz s σ H xs us Q I r h;obtain⟨x,b,rfl,h,q⟩:=h;obtain⟨u,w',rfl,rx,ry⟩:=qM r;have:=hcv _ ry;subst this;have fin:∀tk,EP X pz σ Q (.bool b) { s with toks:=tk }:=fun tk=>⟨.bl b,H,I.tok tk,rfl,q⟩
 rcases h with⟨rfl,e⟩|⟨a,C,od,bm,rfl,ea,xa,e⟩
 .cases rx;exact W.kia_one W.kitx_none I.kIn True.intro e (fun z=>nomatch z) fin
 .cases(show u=Value.ref a from rx);exact W.kia_one (HS xa) I.kIn (I.hok a _ ea).1 e (fun z=>nomatch z) fin
theorem RB.exc{K:W.Frag}{G:GH}{H:Hp}{v:V}{k:Str}{nm:Str}{ds:List (Str×D)}(gk:aI K G H)(h:RB K G H v (.obj 0 ((k,.str nm)::ds))):∃a C od,v=.ref a/\H a=some (.ext (ie a C od))/\XN K nm C:=by
 rcases h with h|⟨a,rfl,h⟩
 .cases h with
 |scl s=>cases s
 |ref e=>cases gk _ _ e with
  |exc r n f=>exact⟨_,_,_,rfl,r,n⟩
 |kc k=>cases k
 .cases h.ob
theorem zj{c:b_}{cv:V}{tab:Str->Option Bool}{a2:Expr}(hcv:∀u,am cv u->u=c)(hx:IsxOk X.K c tab)(h2:PE X a2 (tC cv))(hg:Gl X "isinstance")(hm:X.mg "isinstance" = none)(he:SB X g m e f)(hs1:j_ [e,a2] X.env=(false,eval e X.env)::j_ [a2] X.env:=by rfl)(hs2:j_ [a2] X.env=(false,eval a2 X.env)::j_ [] X.env:=by rfl)(hpl:(backTo pos (j_ [a2] X.env)).any (·.1)=false:=by rfl):SE X g m (.Call (.Name "isinstance" p) [e,a2] [] pos) (f1 f (cN tab)):=by
 refine PE.imp (k4 (Ij hcv) hg hm (by first|exact O7|rfl) (gs he (gs h2 je hs2) hs1) (by decide) (by decide) hs1 hpl) fun σ H Q ⟨r,G,si,q⟩=>⟨r,G,si,aW (aY q) fun d q1 v G1 H1 w1 r1=>?_⟩
 obtain⟨d',e',q2⟩:=cb q1;unfold cN at e';split at e'
 .cases e';have hv:v=.non:=r1.non w1.ok;subst hv;exact⟨.non,false,rfl,.inl ⟨rfl,hx.no⟩,q2 _ G1 H1 w1 (.scl (.bl _))⟩
 .rename_i k nm ds;cases ht:tab nm with
 |none=>rw[ht]at e';cases e'
 |some b=>rw[ht]at e';cases e';obtain⟨a,C,od,rfl,ha,xn⟩:=RB.exc w1.ok r1;obtain⟨bm,xa,hk⟩:=hx.ex nm b C ht xn;exact⟨.ref a,b,rfl,.inr ⟨a,C,od,bm,rfl,ha,xa,hk⟩,q2 _ G1 H1 w1 (.scl (.bl _))⟩
 .cases e'
theorem oh{x:Str}{T:Addr}{tab:Str->Option Bool}(hmT:X.mg x=some (.ref T))(hx:IsxOk X.K (.ref T) tab)(hgT:Gl X x)(hg:Gl X "isinstance")(hm:X.mg "isinstance" = none)(he:SB X g m e f)(hd:(x==("__debug__" : Str))=false:=by decide)(hs1:j_ [e,.Name x p2] X.env=(false,eval e X.env)::j_ [.Name x p2] X.env:=by rfl)(hs2:j_ [.Name x p2] X.env=(false,eval (.Name x p2) X.env)::j_ [] X.env:=by rfl)(hpl:(backTo pos (j_ [.Name x p2] X.env)).any (·.1)=false:=by rfl):SE X g m (.Call (.Name "isinstance" p) [e,.Name x p2] [] pos) (f1 f (cN tab)):=zj (cv:=.ref T) (fun u h=>h) hx (rW (v:=.ref T) hgT hmT rfl hd) hg hm he hs1 hs2 hpl
theorem zi{x:Str}{T:String}{tab:Str->Option Bool}(hv:NX x=some (.type T))(hmT:X.mg x=none)(hx:IsxOk X.K (.type T) tab)(hgT:Gl X x)(hg:Gl X "isinstance")(hm:X.mg "isinstance" = none)(he:SB X g m e f)(hn:x≠"__name__" := by decide)(hd:(x==("__debug__" : Str))=false:=by decide)(hs1:j_ [e,.Name x p2] X.env=(false,eval e X.env)::j_ [.Name x p2] X.env:=by rfl)(hs2:j_ [.Name x p2] X.env=(false,eval (.Name x p2) X.env)::j_ [] X.env:=by rfl)(hpl:(backTo pos (j_ [.Name x p2] X.env)).any (·.1)=false:=by rfl):SE X g m (.Call (.Name "isinstance" p) [e,.Name x p2] [] pos) (f1 f (cN tab)):=zj (cv:=.ty T) (fun u h=>h) hx (Ao (v:=.ty T) hgT hmT hv rfl hn hd) hg hm he hs1 hs2 hpl
end
section
variable{X:Cx}{g:GE}{m:List Md}{e:Expr}{es:List Expr}{fl:aj->Res (List D)}{k:Nat}{ps:List Str}{F:List D->Res D}{x:Str}{p pos:Pos}{ms:List Md}
theorem rm(c:CalleeX X.prog X.w X.K X.mg X.base x ps [] k false ms F)(hr:Room k X.A)(ha:fX X g m (e::es) ms fl)(hg:Gl X x:=by rfl)(hdb:(x==("__debug__" : Str))=false:=by decide)(he:j_ (e::es) X.env=(false,eval e X.env)::j_ es X.env:=by rfl)(hpl:(backTo pos (j_ es X.env)).any (·.1)=false:=by rfl):SE X g m (.Call (.Name x p) (e::es) [] pos) (dP fl [] F):=Hc (ms:=ms) (dds:=[]) (dvs:=[]) (ds:=[]) (by rw[show(MF ([]:List D).length Md.sh)=[]from rfl,ML];exact c) hr .nil .nil ha hg hdb he hpl
end
theorem XN.uniq{K:W.Frag}{nm:Str}{C c:Addr}(h:XN K nm C)(k:(K.all fun e=>match e.2.data with|.cls cd=>cd.name != nm || e.1==c|_=>true)=true):C=c:=by
 obtain⟨o,cd,h1,h2,h3⟩:=h;have hm:(C,o)∈(K:List (Addr×Obj)):=by
  have key:∀l:List (Addr×Obj),l.lookup C=some o->(C,o)∈l:=by
   intro l
   induction l with
  |nil=>intro h;cases h
  |cons q l ih=>
    intro h;rw[List.lookup]at h;split at h
    .rename_i hb;have:=No hb;cases h;rw[this];exact e_
    .exact c_ _ (ih h)
  exact key K h1
 have:=MP.mp k _ hm;simp only[h2]at this;rw[h3]at this;simpa using this
def CS(f:Addr):Nat->Option (Option V×Option D):=fun j=>if j=0 then some (some (V.ref f),none)else none
theorem SI.fn{X:Cx}{m:List Md}{r:aj}{G:GH}{st:L2.St}{H:Hp}(f:Addr)(s:SI X ⟨G,H,fun _=>none⟩ m r G st H):SI X ⟨G,H,CS f⟩ (.bw::m) (none::r) G (some (V.ref f)::st) H where
 gok:=s.gok
 old:=s.old
 ge:=s.ge
 gf:=s.gf
 lm:=congrArg (· + 1) s.lm
 lr:=congrArg (· + 1) s.lr
 sh:=fun i d h hm=>by cases i with
 |zero=>simp at h
 |succ i=>exact s.sh i d (by simpa using h) (by simpa using hm)
 ow:=fun i d h hm=>by cases i with
 |zero=>simp at h
 |succ i=>exact s.ow i d (by simpa using h) (by simpa using hm)
 bw:=fun i d h hm=>by cases i with
 |zero=>simp at h
 |succ i=>exact s.bw i d (by simpa using h) (by simpa using hm)
 dis:=fun i j a d e hij hi hj mi mj si sj=>by cases i with
 |zero=>simp at hi
 |succ i=>cases j with
  |zero=>simp at hj
  |succ j=>exact s.dis i j a d e (fun z=>hij (by rw[z])) (by simpa using hi) (by simpa using hj) (by simpa using mi) (by simpa using mj) (by simpa using si) (by simpa using sj)
 lk:=fun i o h _=>by cases i with
 |zero=>have h:some (some (V.ref f),none)=some o:=h;cases h;exact⟨rfl,fun d e=>by simp at e⟩
 |succ i=>exact nomatch (show none=some o from h)
def Ml(K:W.Frag)(mg:Str->Option b_)(y:Str)(ro:Bool)(ms:List Md)(F:List D->Res D):Sp:=fun vs H Q E=>∃f vs',mg y=some (.ref f)/\vs=V.ref f::vs'/\hV K ro ms F vs' H Q E
section
variable{P:D_}{w:Mu}{K:W.Frag}{mg:Str->Option b_}{base:Heap}
theorem JK{X:Cx}{ro:Bool}{fs:FS}{m':List Md}{G:GH}{H:Hp}{r:aj}{Q:VK}{hd:Nat->Option (Option V×Option D)}(q:fin (aq ro (fs r)) (fun d=>∀v G' H',Grow X.K G H G' H'->RV ro X.K H G' H' v d->Q v H') fun _=>False):bG X ⟨G,H,hd⟩ ro m' [] G { nx:=fun _ H'=>Q .non H',rt:=Q } (fs r):=by cases e:fs r with
|nx r'=>rw[e]at q;cases ro with
 |false=>exact fun σ' G' H' _ si=>q .non G' H' si.grown (.scl .non)
 |true=>exact q.elim
|rt d=>rw[e]at q;exact fun v G' H' wg rv=>q v G' H' wg rv
|bk r'=>rw[e]at q;exact q.elim
|ct r'=>rw[e]at q;exact q.elim
|exc x r'=>rw[e]at q;exact q.elim
|stuck=>rw[e]at q;exact q
structure CalleeF(P:D_)(w:Mu)(K:W.Frag)(mg:Str->Option b_)(base:Heap)(x y:Str)(ps:List Str)(k:Nat)(ro:Bool)(ms:List Md)(F:List D->Res D):Prop where
 ex:∃f fd,mg x=some (.ref f)/\W.keepIn K (.ref f)=true/\fq K fd ps []/\FnOk P w K mg base bR k f fd ps (Ml K mg y ro ms F)
theorem zx{x y:Str}{st:Stmt}{n0:Str}{N ps:List Str}{k:Nat}{ro:Bool}{ms:List Md}{fs:FS}{m':List Md}(A:DefAt K mg x st)(S:FnScope (n0::N) ps (ar st))(hms:ms.length+1=ps.length)(hb:∀(kV doc pm:b_)(an:Option Addr)(cdv ct:b_)(us:List b_),us.length=ps.length->Pg (W.fnOf x x (fA st) (c8 st) (ar st) .none kV doc pm an cdv ct) ⟨us,[]⟩=pure (ps.zip us))(hbody:∀(f:Addr)(cdv:b_)(A:Mw)(outer:List Env)(s:g_)(H:Hp)(g:GE)(E:XK),(∀fy,mg y=some (.ref fy)->g.hd 0=some (some (V.ref fy),none))->Room k (A.deeper (Ot x (ar st) s.heap.objs.size f cdv)) ->cZ (aQ bR P w K mg base (n0::N) x (ar st) f cdv A outer s H E).nox g ro [] (.bw::gr N.length ms) (c8 st) fs m'):CalleeF P w K mg base x y ps (k+1) ro ms fun ds=>aq ro (fs (none::aK N.length ds)):=by
 obtain⟨f,fd,h1,F⟩:=A.ex;refine⟨f,fd,h1,F.kp,F.binds hb,?_⟩;refine F.ok S (fun vs H Q E ⟨fy,vs',_,hv,G,ds,gk,rs,q⟩=>by rw[hv,MM,rs.len.1,hms]) fun cdv A outer s H vs Q E hr h=>?_;obtain⟨fy,vs',hy,rfl,G,ds,gk,rs,q⟩:=h;have hpl:ps.length<=N.length+1:=by have:=congrArg Pw S.pre;rw[Nm,MM]at this;omega
 have si:=SI.fn (X:=(aQ bR P w K mg base (n0::N) x (ar st) f cdv A outer s H E).nox) fy (oX (N:=N) gk rs (by omega));have e:L2.a7 (n0::N) (V.ref fy::vs')=some (V.ref fy)::L2.a7 N vs':=by unfold L2.a7;rw[G_,List.cons_append,MM,MM,Nat.add_sub_add_right]
 rw[<-e]at si;exact⟨_,(hbody f cdv A outer s H ⟨G,H,CS fy⟩ E (fun fz hz=>by rw[hy]at hz;cases hz;rfl) hr).2,none::aK N.length ds,G,si,JK q⟩
end
section
variable{X:Cx}{g:GE}{m:List Md}{e:Expr}{es:List Expr}{fl:aj->Res (List D)}{k:Nat}{ps:List Str}{F:List D->Res D}{ds:List b_}{dds:List D}{dvs:List V}{x y:Str}{p py pos:Pos}{ms:List Md}
theorem rO(c:CalleeF X.prog X.w X.K X.mg X.base x y ps k false ms F)(hr:Room k X.A)(ha:fX X g m (e::es) ms fl)(hg:Gl X x:=by rfl)(hgy:Gl X y:=by rfl)(hy:∃f,X.mg y=some (.ref f))(hdb:(x==("__debug__" : Str))=false:=by decide)(hdy:(y==("__debug__" : Str))=false:=by decide)(he:j_ (.Name y py::e::es) X.env=(false,eval (.Name y py) X.env)::j_ (e::es) X.env:=by rfl)(hpl:(backTo pos (j_ (e::es) X.env)).any (·.1)=false:=by rfl):SE X g m (.Call (.Name x p) (.Name y py::e::es) [] pos) (aJ fl [] F):=by
 obtain⟨f,fd,h1,h2,h3,h4⟩:=c.ex;obtain⟨fy,hy⟩:=hy;refine PE.imp (z7 h4 hr hg h1 h2 h3 .nil xH (gs (rW hgy hy (v:=V.ref fy) rfl hdy) ha he) hdb he hpl) fun σ H Q ⟨r,G,si,q⟩=>⟨r,G,si,?_⟩
 cases ez:fl r with
|ok zs=>unfold aJ at q;rw[ez]at q;intro vs G' H' w' rs;refine⟨fy,vs++[],hy,rfl,?_⟩;have:=Bm (F:=F) (dds:=[]) (dvs:=[]) (ro:=false) (Q:=Q) w'.ok rs .nil (aW (A6 q (yQ _)) fun d k v G2 H2 w2 rv=>k v G2 H2 (w'.trans w2) rv);rwa[show ms++MF ([]:List D).length Md.sh=ms from ML _]at this
|exc x=>unfold aJ at q;rw[ez]at q;exact q
|stuck=>unfold aJ at q;rw[ez]at q;exact q
theorem J2{i:Nat}{f:Addr}{fd:M5}{sp:Sp}{t:TA}(F:FnOk X.prog X.w X.K X.mg X.base (kA X.prog X.w) k f fd ps sp)(hr:Room k X.A)(hN:X.N[i]? = some x)(hv:fD X.env.scope x)(hk:W.keepIn X.K (.ref f)=true)(hb:fq X.K fd ps ds)(hd:ai dvs ds)(ha:PA X (e::es) t)(hdb:(x==("__debug__" : Str))=false:=by decide)(hcd:(x==("__classdict__" : Str))=false:=by decide)(he:j_ (e::es) X.env=(false,eval e X.env)::j_ es X.env:=by rfl)(hpl:(backTo pos (j_ es X.env)).any (·.1)=false:=by rfl):PE X (.Call (.Name x p) (e::es) [] pos) (fun σ H Q=>σ[i]? = some (some (V.ref f))/\t σ H fun vs H1=>∃E,sp (vs++dvs) H1 Q E/\og X σ H1 E):=by intro pz s σ H Q I ⟨hi,h⟩;refine NY (aG (kO hN hv hdb hcd pz s σ H (fun v H1=>v=V.ref f/\t σ H1 fun vs H1=>∃E,sp (vs++dvs) H1 Q E/\og X σ H1 E) I ⟨_,hi,rfl,h⟩) fun u s1 ⟨v,H1,I1,r1,e1,h1⟩=>?_);subst e1;cases r1;refine W.callWith_K (h₀:=X.base) I1.ok.mod.kin hk (aG (ha pos pz s1 σ H1 _ I1 h1) fun us s2 ⟨vs,H2,I2,r,E,q,px⟩=>⟨I2.kIn,?_⟩) he hpl;exact Ai F hr hb hd I2 px r q
theorem Ip(i:Nat)(hh:∀fy,X.mg y=some (.ref fy)->g.hd i=some (some (V.ref fy),none))(hm:m[i]? = some .bw)(c:CalleeX X.prog X.w X.K X.mg X.base y ps ds k false (ms++MF dds.length .sh) F)(hr:Room k X.A)(hd:ai dvs ds)(hsc:Paired Scl dvs dds)(ha:fX X g m (e::es) ms fl)(hN:X.N[i]? = some x:=by rfl)(hv:fD X.env.scope x:=by first|exact Or.inl rfl|exact Or.inr (Or.inl rfl)|exact Or.inr (Or.inr rfl))(hdb:(x==("__debug__" : Str))=false:=by decide)(hcd:(x==("__classdict__" : Str))=false:=by decide)(he:j_ (e::es) X.env=(false,eval e X.env)::j_ es X.env:=by rfl)(hpl:(backTo pos (j_ es X.env)).any (·.1)=false:=by rfl):SE X g m (.Call (.Name x p) (e::es) [] pos) (dP fl dds F):=by
 obtain⟨fa,fd,h1,h2,h3,G1⟩:=c.ex;refine PE.imp (J2 (i:=i) G1 hr hN hv h2 h3 hd ha hdb hcd he hpl) fun σ H Q ⟨r,G,si,q⟩=>⟨(si.lk i _ (hh fa h1) hm).1,r,G,si,?_⟩
 cases ez:fl r with
|ok zs=>
  unfold dP at q;rw[ez]at q;intro vs G' H' w' rs;refine⟨fun cls od H2=>∃C nm fs G2,cls=.ref C/\F (zs++dds)=.exc (xD nm fs)/\XN X.K nm C/\XF G2 od fs/\Grow X.K G' H' G2 H2,⟨G',zs++dds,w'.ok,rs.app hsc,?_⟩,?_⟩
  .cases ef:F (zs++dds)with
  |ok d=>replace q:fin (F (zs++dds)) _ _:=q;rw[ef]at q;exact fun v G2 H2 w2 rv=>q v G2 H2 (w'.trans w2) rv
  |exc y=>exact fun C od nm fs G2 H2 hy xn xf w2=>⟨C,nm,fs,G2,rfl,by rw[hy],xn,xf,w2⟩
  |stuck=>replace q:fin (F (zs++dds)) _ _:=q;rw[ef]at q;exact q
  .intro pz s a cls od H2 s' I fl ⟨C,nm,fs,G2,hc,ef,xn,xf,w2⟩;subst hc;replace q:fin (F (zs++dds)) _ _:=q;rw[ef]at q;exact q pz (.ref a) s' G2 H2 (w'.trans w2) (fl.inv I) ⟨pz,s,H',a,C,od,nm,fs,rfl,rfl,xn,xf,I,fl⟩
|exc x=>unfold dP at q;rw[ez]at q;exact q
|stuck=>unfold dP at q;rw[ez]at q;exact q
theorem At(i:Nat)(hh:∀fy,X.mg y=some (.ref fy)->g.hd i=some (some (V.ref fy),none))(hm:m[i]? = some .bw)(c:CalleeX X.prog X.w X.K X.mg X.base y ps [] k false ms F)(hr:Room k X.A)(ha:fX X g m (e::es) ms fl)(hN:X.N[i]? = some x:=by rfl)(hv:fD X.env.scope x:=by first|exact Or.inl rfl|exact Or.inr (Or.inl rfl)|exact Or.inr (Or.inr rfl))(hdb:(x==("__debug__" : Str))=false:=by decide)(hcd:(x==("__classdict__" : Str))=false:=by decide)(he:j_ (e::es) X.env=(false,eval e X.env)::j_ es X.env:=by rfl)(hpl:(backTo pos (j_ es X.env)).any (·.1)=false:=by rfl):SE X g m (.Call (.Name x p) (e::es) [] pos) (dP fl [] F):=Ip i hh hm (dds:=[]) (dvs:=[]) (by rw[show ms++MF ([]:List D).length Md.sh=ms from ML _];exact c) hr .nil .nil ha hN hv hdb hcd he hpl
theorem kl{P:D_}{w:Mu}{K:W.Frag}{mg:Str->Option b_}{base:Heap}{ro:Bool}(c:CalleeX P w K mg base y ps ds k ro ms F):∃f,mg y=some (.ref f):=let⟨f,_,h,_⟩:=c.ex;⟨f,h⟩
end
def dR(K:W.Frag)(C:Addr):Option (List b_×Str):=match K.lookup C with
|some ⟨.type "type",_,.cls cd,sl⟩=>(match cd.mro,sl.toList with
 |.ref C'::bm,[_,_,_,_,some (.builtin _),_]=>if (C'==C && ! cd.hasDel)=true then some (bm,cd.name)else none
 |_,_=>none)
|_=>none
theorem xR{K:W.Frag}{C:Addr}{bm:List b_}{nm:Str}(h:dR K C=some (bm,nm)):XO K C bm/\XN K nm C:=by
 unfold dR at h;split at h
 .rename_i dict cd sl hk;split at h
  .rename_i C' bm' k0 k1 k2 k3 n k5 hm hs;split at h
   .rename_i hc;cases h;simp only[I_,beq_iff_eq,OO]at hc;obtain⟨rfl,hd⟩:=hc;refine⟨?_,_,cd,hk,rfl,rfl⟩;obtain⟨nm',bs,mro,ns,q,hdct,sn,sub,ab,col,hdel⟩:=cd;have e1:mro=Value.ref C'::bm:=hm;have e2:hdel=false:=hd;subst e1 e2;have e3:sl = #[k0,k1,k2,k3,some (Value.builtin n),k5]:=by cases sl with
    |mk l=>exact congrArg Array.mk hs
    subst e3;exact⟨_,_,_,_,_,_,_,_,_,_,_,_,_,_,_,_,hk⟩
   .cases h
  .cases h
 .cases h
def eN(K:W.Frag)(nm:Str)(c:Addr):Bool:=K.all fun e=>match e.2.data with
|.cls cd=>cd.name != nm || e.1==c
|_=>true
structure CF(K:W.Frag)(nm:Str)(c:Addr)(bm:List b_):Prop where
 xa:XA K c bm
 xn:XN K nm c
 un:eN K nm c=true
theorem lD{K:W.Frag}{nm:Str}{c:Addr}{bm:List b_}(o:dR K c=some (bm,nm))(be:bm.contains (Value.type "BaseException")=true)(bo:bm.contains (Value.type "object")=true)(ga:QH K (.ref c) "__getattribute__" = some (some (.builtin "BaseException.__getattribute__")))(gn:QH K (.ref c) "__getattr__" = some none)(gc:QH K (.ref c) "__class__" = some (some (.builtin "object.__class__")))(gg:S_ K (.builtin "object.__class__") "__get__" = some (some (.builtin "getset_descriptor.__get__")))(gt:takesIn K (.builtin "object.__class__")=some true)(un:eN K nm c=true):CF K nm c bm:=⟨⟨(xR o).1,be,bo,ga,gn,gc,gg,gt⟩,(xR o).2,un⟩
theorem CF.eq{K:W.Frag}{nm:Str}{c C:Addr}{bm:List b_}(f:CF K nm c bm)(h:XN K nm C):C=c:=XN.uniq h f.un
theorem Dp{K:W.Frag}{T:Addr}{hit:Str->Bool}(l:List (Str×Addr×List b_))(h:∀q∈l,CF K q.1 q.2.1 q.2.2/\(Value.ref q.2.1::q.2.2).contains (.ref T)=true)(hh:∀nm,hit nm=true->∃q∈l,q.1=nm):kE K T hit:=by intro nm C hn xn;obtain⟨q,hq,rfl⟩:=hh nm hn;obtain⟨f,hc⟩:=h q hq;have:=f.eq xn;subst this;exact⟨_,f.xa.ob,hc⟩
theorem E9{K:W.Frag}{c:b_}{tab:Str->Option Bool}(l:List (Str×Addr×List b_))(n:Q6 K (.type "NoneType") c=some false)(h:∀q∈l,CF K q.1 q.2.1 q.2.2/\Q6 K (.ref q.2.1) c=tab q.1)(hh:∀nm b,tab nm=some b->∃q∈l,q.1=nm):IsxOk K c tab:=by refine⟨n,fun nm b C ht xn=>?_⟩;obtain⟨q,hq,rfl⟩:=hh nm b ht;obtain⟨f,hc⟩:=h q hq;have:=f.eq xn;subst this;exact⟨_,f.xa,by rw[hc,ht]⟩
theorem wN{K:W.Frag}{h:Heap}{mg:Str->Option b_}{x:Str}{C:Addr}(KX:K.In h)(G:h.Ns My mg)(a:W.nsIn K My x=some (some (.ref C)))(e:excIn K C iD "ValueError.__new__" = true):XC K mg x C:=⟨W.mg_of KX G a,e⟩
end DL
namespace DL
open PySem PySem.Spec PyProof.Rows L2 PySem.W
def gl{α:Type}(P:α->Prop):List α->Prop
|[]=>True
|a::l=>P a/\gl P l
theorem gl.mem{α:Type}{P:α->Prop}:∀{l:List α},gl P l->∀q∈l,P q
|[],_,_,hq=>by cases hq
|a::l,h,q,hq=>by
  rcases p_.mp hq with rfl|hq
  .exact h.1
  .exact gl.mem h.2 q hq
abbrev QL:=List (Str×Addr×List b_)
theorem wF{l1 l2 N:List Str}{nm:Str}{b:Bool}{L:QL}(hN:L.map (·.1)=N)(hs:(l1++l2).all (fun x=>N.contains x)=true)(h:(if l1.contains nm=true then some true else if l2.contains nm=true then some false else none)=some b):∃q∈L,q.1=nm:=by
 have hm:nm∈l1++l2:=by
  split at h
  .rename_i z;exact MQ _ (Oa.mp z)
  .split at h
   .rename_i z;exact Mr _ (Oa.mp z)
   .cases h
 have:=Oa.mp (MP.mp hs nm hm);rw[<-hN]at this;obtain⟨q,h1,h2⟩:=q_.mp this;exact⟨q,h1,h2⟩
theorem qj{K:W.Frag}{c:b_}{l1 l2 N:List Str}{L:QL}(hN:L.map (·.1)=N)(f:gl (fun q=>CF K q.1 q.2.1 q.2.2) L)(n:Q6 K (.type "NoneType") c=some false)(h:L.all (fun q=>Q6 K (.ref q.2.1) c==if l1.contains q.1=true then some true else if l2.contains q.1=true then some false else none)=true)(hs:(l1++l2).all (fun x=>N.contains x)=true:=by decide+kernel):IsxOk K c fun nm=>if l1.contains nm=true then some true else if l2.contains nm=true then some false else none:=E9 L n (fun q hq=>⟨f.mem q hq,No (MP.mp h q hq)⟩) fun _ _ z=>wF hN hs z
end DL
namespace DL
open PySem PySem.Spec PyProof.Rows L2 PySem.W PySem.Calls PySem.Builtin PySem.Builtin.Str
end DL
section
namespace L2
open PySem PySem.Spec PyProof.Rows
theorem dF{sc:Oe}{x:Str}(h:(match sc.names.lookup x with|some .local=>true|some .cell=>true|_=>false)=true):gZ sc x:=by
 revert h;unfold gZ;split <;> intro h
 .exact .inl (by assumption)
 .exact .inr (by assumption)
 .cases h
theorem bL{N P:List Str}{sc:Oe}(h:(decide (sc.kind=.function) && ! sc.isCoroutine && ! sc.isGenerator&&decide N.Nodup&&decide (N.take P.length=P)&&(P.all fun x=>match sc.names.lookup x with|some .local=>true|some .cell=>true|_=>false)&&sc.names.all fun y=>decide (y.2≠.free))=true:=by decide+kernel):FnScope N P sc:=by simp only[I_,decide_eq_true_eq,OO,MP]at h;obtain⟨⟨⟨⟨⟨⟨a,b⟩,c⟩,d⟩,e⟩,f⟩,k⟩:=h;exact⟨a,b,c,d,e,fun x hx=>dF (f x hx),k⟩
end L2
namespace DL
open PySem PySem.Spec PyProof.Rows L2
section
variable{X:Cx}{g:GE}{m mb ms:List Md}{e a b:Expr}{es:List Expr}{f fa fb:FE}{x:Str}{p pos pos':Pos}{ro:Bool}{fl:aj->Res (List D)}{k:Nat}{ps:List Str}{F:List D->Res D}
theorem bE(h:SE X g m e f):SB X g m e f:=SE.toB h
theorem iB{i:Int}{j:Nat}:SB X g m (.Constant (.int i) j pos) fun _=>.ok (.int i):=bE lM
theorem xB(hu:X.A.units+1<NN)(ha:SB X g m a fa)(hb:SB X g m b fb)(hs:rL b:=by intro _ _;rfl):SB X g m (.Subscript a b pos) (f2 fa fb bb):=bE (gp hu ha hb hs)
theorem cr(i:Nat)(hN:X.N.Nodup)(he:SE X g m e f)(hi:X.N[i]? = some x:=by rfl)(hx:gZ X.env.scope x:=by exact dF rfl)(hs:Pc e (some (.Name x pos')) pos.line X.env=pure false:=by rfl)(hf:X.fn x=true\/X.env.scope.names.lookup x=some .local:=by first|exact .inl rfl|exact .inr rfl|assumption):SS X g ro mb m (.Assign [.Name x pos'] e pos) (ap m i f) (m.set i .sh):=DP i hN hi hx he hs hf
theorem bW(i:Nat)(hN:X.N.Nodup)(hi:X.N[i]? = some x:=by rfl)(hx:gZ X.env.scope x:=by exact dF rfl)(hf:X.fn x=true\/X.env.scope.names.lookup x=some .local:=by first|exact .inl rfl|exact .inr rfl|assumption):SG X g m (.Name x pos) (aS i) (m.set i .sh):=DJ i hN hi hx hf
theorem aX(c:Callee X.prog X.w X.K X.mg X.base x ps [] k false ms F)(ha:fX X g m (e::es) ms fl)(hr:Room k X.A:=by exact Room.mono ‹_› (by decide))(hg:Gl X x:=by rfl)(hdb:(x==("__debug__" : Str))=false:=by decide)(he:j_ (e::es) X.env=(false,eval e X.env)::j_ es X.env:=by rfl)(hpl:(backTo pos (j_ es X.env)).any (·.1)=false:=by rfl):SE X g m (.Call (.Name x p) (e::es) [] pos) (aJ fl [] F):=yX (dds:=[]) c hr ha (by simp) hg .nil .nil hdb he hpl
end
theorem cn{P:D_}{w:Mu}{K:W.Frag}{mg:Str->Option b_}{base:Heap}{x:Str}{st:Stmt}{N ps:List Str}{k:Nat}{ro:Bool}{ms:List Md}{fs:FS}{m':List Md}(A:DefAt K mg x st)(S:FnScope N ps (ar st))(hbody:∀(f:Addr)(cdv:b_)(A:Mw)(outer:List Env)(s:g_)(H:Hp)(g:GE)(E:XK),Room k (A.deeper (Ot x (ar st) s.heap.objs.size f cdv))->(A.deeper (Ot x (ar st) s.heap.objs.size f cdv)).units+1<NN ->cZ (aQ bR P w K mg base N x (ar st) f cdv A outer s H E).nox g ro [] (gr N.length ms) (c8 st) fs m')(hms:ms.length=ps.length:=by rfl)(hb:∀(kV doc pm:b_)(an:Option Addr)(cdv ct:b_)(us:List b_),us.length=ps.length->Pg (W.fnOf x x (fA st) (c8 st) (ar st) .none kV doc pm an cdv ct) ⟨us,[]⟩=pure (ps.zip us):=by intro _ _ _ _ _ _ us hl;rcases us with _|⟨_,_|⟨_,_|⟨_,_|⟨_,_|⟨_,_|⟨_,_⟩⟩⟩⟩⟩⟩ <;> first|(exfalso;revert hl;simp;done)|kernel_rfl):Callee P w K mg base x ps [] (k+1) ro ms fun ds=>aq ro (fs (aK N.length ds)):=ER A S hms hb fun f cdv A outer s H g E hr=>hbody f cdv A outer s H g E hr (fG hr)
end DL
end
section
namespace Rg
theorem k8{α:Type}[DecidableEq α]:∀{l m:List α},l.Nodup->(∀x∈l,x∈m)->l.length<=m.length
|[],_,_,_=>MD _
|a::l,m,hn,hs=>by
  have hn':=H_.mp hn;have h1:=k8 (l:=l) (m:=m.erase a) hn'.2 fun x hx=>by
   have hxa:x≠a:=by rintro rfl;exact hn'.1 hx
   exact(Oh hxa).mpr (hs x (c_ _ hx))
  have ha:a∈m:=hs a e_;rw[M6 ha]at h1;have:=Np ha;simp only[MM];omega
theorem pG{α:Type}(p:α->Bool)(l:List α):(l.filter p).length+(l.filter fun x=>! p x).length=l.length:=by induction l with
|nil=>rfl
|cons a l ih=>simp only[ME];cases p a <;> simp <;> omega
theorem lh{α:Type}{p:α->Bool}{l:List α}(h:l.Nodup):(l.filter p).Nodup:=List.Pairwise.filter p h
structure S where
 line:List Nat
 things:List Nat
section
variable(W:Nat->List Nat)(O:Nat->Option Nat)
def best(row things:List Nat):Nat:=(row.find? fun x=>decide (x∈things)).getD 0
def bY(s:S)(h:Nat):Nat:=best (W h) s.things
def pt(s:S)(x:Nat):Nat:=(s.line.find? fun h=>decide (O h=some x)).getD (s.line.headD 0)
def cf(s:S)(h:Nat):Nat:=pt O s (bY W s h)
def minus(s:S)(C:List Nat):S:=⟨s.line.filter fun h=>decide (h∉C),s.things.filter fun x=>decide (x∉C.map (bY W s))⟩
def it{α:Type}(f:α->α):Nat->α->α
|0,x=>x
|n+1,x=>it f n (f x)
theorem g8{α:Type}(f:α->α):∀(a b:Nat)(x:α),it f (a+b) x=it f b (it f a x)
|0,b,x=>by rw[Qr];rfl
|a+1,b,x=>by rw[Nat.add_right_comm];exact g8 f a b (f x)
theorem kT{α:Type}(f:α->α)(n:Nat)(x:α):it f (n+1) x=f (it f n x):=g8 f n 1 x
theorem qS{α:Type}(f:α->α){p:Nat}{x:α}(h:it f p x=x):∀k,it f (p*k) x=x
|0=>rfl
|k+1=>by rw[Nat.mul_succ,g8,qS f h k,h]
structure Ok(s:S):Prop where
 nl:s.line.Nodup
 nt:s.things.Nodup
 le:s.line.length<=s.things.length
 row:∀h∈s.line,∀x∈s.things,x∈W h
 inj:∀h k x,O h=some x->O k=some x->h=k
 own:∀h∈s.line,∀x,O h=some x->x∈s.things
structure Cyc(s:S)(C:List Nat):Prop where
 sub:∀h∈C,h∈s.line
 cl:∀h∈C,cf W O s h∈C
 per:∀h∈C,∃k,it (cf W O s) (k+1) h=h
variable{W O}
theorem oQ{row things:List Nat}(h:∃x∈row,x∈things):best row things∈things:=by unfold best;cases e:row.find? fun x=>decide (x∈things)with
|none=>obtain⟨x,h1,h2⟩:=h;have:=MH.mp e x h1;simp[h2]at this
|some x=>have:=M_ e;simpa using this
theorem Ar{row things t':List Nat}(hs:∀x∈t',x∈things)(hb:best row things∈t')(hr:best row things∈row):best row t'=best row things:=by unfold best at *;cases e:row.find? fun x=>decide (x∈things)with
|none=>rw[e]at hb hr;have:=MH.mp e _ hr;simp only[decide_eq_true_eq]at this;exact absurd (hs _ hb) this
|some x=>
  rw[e]at hb;simp only[RC]at hb ⊢;obtain⟨hx,as,bs,rfl,h2⟩:=List.find?_eq_some_iff_append.mp e;rw[List.find?_append];have:as.find? (fun y=>decide (y∈t'))=none:=MH.mpr fun y hy=>by have:=h2 y hy;simp only[OO,decide_eq_false_iff_not]at this;simp only[decide_eq_true_eq];exact fun z=>this (hs y z)
  rw[this];simp[K_,hb]
theorem Ic{row things:List Nat}(h:∃x∈row,x∈things):best row things∈row:=by unfold best;cases e:row.find? fun x=>decide (x∈things)with
|none=>obtain⟨x,h1,h2⟩:=h;have:=MH.mp e x h1;simp[h2]at this
|some x=>exact MA e
variable{s:S}
theorem Ok.some_thing(k:Ok W O s){h:Nat}(hh:h∈s.line):∃x∈W h,x∈s.things:=by have h1:=Np hh;have h2:0<s.things.length:=A_ h1 k.le;obtain⟨x,hx⟩:=List.exists_mem_of_length_pos h2;exact⟨x,k.row h hh x hx,hx⟩
theorem Ok.tgt_mem(k:Ok W O s){h:Nat}(hh:h∈s.line):bY W s h∈s.things:=oQ (k.some_thing hh)
theorem Ok.tgt_row(k:Ok W O s){h:Nat}(hh:h∈s.line):bY W s h∈W h:=Ic (k.some_thing hh)
theorem yU{x:Nat}(h:s.line≠[]):pt O s x∈s.line:=by unfold pt;cases e:s.line.find? fun h=>decide (O h=some x)with
|none=>cases q:s.line with
 |nil=>exact absurd q h
 |cons a l=>simp[List.headD]
|some y=>exact MA e
theorem yV(k:Ok W O s){h x:Nat}(hh:h∈s.line)(ho:O h=some x):pt O s x=h:=by unfold pt;cases e:s.line.find? fun h=>decide (O h=some x)with
|none=>have:=MH.mp e h hh;simp[ho]at this
|some y=>have:=M_ e;simp only[decide_eq_true_eq]at this;exact k.inj y h x this ho
theorem qW{h:Nat}(hl:s.line≠[]):cf W O s h∈s.line:=yU hl
theorem Cyc.it_mem{C:List Nat}(c:Cyc W O s C){h:Nat}(hh:h∈C):∀n,it (cf W O s) n h∈C:=by
 intro n
 induction n generalizing h with
|zero=>exact hh
|succ n ih=>exact ih (c.cl h hh)
theorem Gi{α:Type}{f:α->α}{x y:α}{a b:Nat}(hx:it f (a+1) x=x)(hy:it f (b+1) y=y)(e:f x=f y):x=y:=by
 have h1:=qS f hx (b+1);have h2:=qS f hy (a+1);rw[Nat.mul_comm]at h2;have h3:(a+1)*(b+1)=1+(a*b+a+b):=by rw[Nat.add_mul,Nat.mul_add];omega
 rw[h3,g8]at h1 h2;have e1:it f 1 x=it f 1 y:=e;rw[e1]at h1;rw[<-h1,h2]
theorem Cyc.out{C E:List Nat}(c:Cyc W O s C)(e:Cyc W O s E){h:Nat}(hc:h∈C)(he:h∉E):cf W O s h∉E:=by intro z;obtain⟨k,hk⟩:=c.per h hc;exact he (by rw[<-hk];exact e.it_mem z k)
theorem Hj{C E:List Nat}(c:Cyc W O s C)(e:Cyc W O s E){h k:Nat}(hc:h∈C)(he:k∈E)(q:bY W s h=bY W s k):h=k:=by obtain⟨a,ha⟩:=c.per h hc;obtain⟨b,hb⟩:=e.per k he;exact Gi ha hb (by unfold cf;rw[q])
theorem mr(k:Ok W O s){C E:List Nat}(c:Cyc W O s C)(e:Cyc W O s E){h:Nat}(he:h∈E)(hc:h∉C):bY W (minus W s C) h=bY W s h:=by have hl:=e.sub h he;refine Ar (fun x hx=>(y_.mp hx).1) ?_ (k.tgt_row hl);refine y_.mpr ⟨k.tgt_mem hl,?_⟩;simp only[decide_eq_true_eq];intro z;obtain⟨h',h1,h2⟩:=q_.mp z;have:=Hj c e h1 he h2;rw[this]at h1;exact hc h1
theorem KQ{p:Nat->Bool}:∀{l:List Nat}{a:Nat},l.headD 0=a->l≠[]->p a=true->(l.filter p).headD 0=a
|[],_,_,h,_=>absurd rfl h
|b::l,a,e,_,hp=>by have:b=a:=e;subst this;rw[ME,if_pos hp];rfl
theorem AT(k:Ok W O s){C E:List Nat}(c:Cyc W O s C)(e:Cyc W O s E){h:Nat}(he:h∈E)(hc:h∉C):cf W O (minus W s C) h=cf W O s h:=by unfold cf;rw[mr k c e he hc];have hl:=e.sub h he;have hne:s.line≠[]:=Nt hl;have ho:pt O s (bY W s h)∉C:=e.out c he hc;have hm:pt O s (bY W s h)∈s.line:=yU hne;unfold pt at *;show((s.line.filter fun h=>decide (h∉C)).find? _).getD ((s.line.filter fun h=>decide (h∉C)).headD 0)=_;cases q:s.line.find? fun k=>decide (O k=some (bY W s h))with
|none=>rw[q]at ho;simp only[PZ]at ho ⊢;have:(s.line.filter fun h=>decide (h∉C)).find? (fun k=>decide (O k=some (bY W s h)))=none:=MH.mpr fun y hy=>MH.mp q y (y_.mp hy).1;rw[this];exact KQ rfl hne (by simpa using ho)
|some y=>rw[q]at ho;simp only[RC]at ho ⊢;have hy:=M_ q;simp only[decide_eq_true_eq]at hy;have hyl:=MA q;cases q2:(s.line.filter fun h=>decide (h∉C)).find? (fun k=>decide (O k=some (bY W s h)))with
 |none=>have:=MH.mp q2 y (y_.mpr ⟨hyl,by simpa using ho⟩);simp[hy]at this
 |some z=>have hz:=M_ q2;simp only[decide_eq_true_eq]at hz;exact k.inj z y _ hz hy
theorem oI(k:Ok W O s){C:List Nat}(c:Cyc W O s C):Ok W O (minus W s C) where
 nl:=lh k.nl
 nt:=lh k.nt
 le:=by
  have h1:=pG (fun h=>decide (h∉C)) s.line;have h2:=pG (fun x=>decide (x∉C.map (bY W s))) s.things;have h3:(s.things.filter fun x=>! decide (x∉C.map (bY W s))).length<=((s.line.filter fun h=>! decide (h∉C)).map (bY W s)).length:=by refine k8 (lh k.nt) fun x hx=>?_;obtain⟨_,hx⟩:=y_.mp hx;simp only[decide_not,Bool.not_not,decide_eq_true_eq]at hx;obtain⟨h,h1,h2⟩:=q_.mp hx;exact q_.mpr ⟨h,y_.mpr ⟨c.sub h h1,by simpa using h1⟩,h2⟩
  rw[l_]at h3;have:=k.le;show(s.line.filter _).length<=(s.things.filter _).length;omega
 row:=fun h hh x hx=>k.row h (y_.mp hh).1 x (y_.mp hx).1
 inj:=k.inj
 own:=fun h hh x hx=>by obtain⟨h1,h2⟩:=y_.mp hh;simp only[decide_eq_true_eq]at h2;refine y_.mpr ⟨k.own h h1 x hx,?_⟩;simp only[decide_eq_true_eq];intro z;obtain⟨b,b1,b2⟩:=q_.mp z;have:=c.cl b b1;unfold cf at this;rw[b2,yV k h1 hx]at this;exact h2 this
def less(E C:List Nat):List Nat:=E.filter fun h=>decide (h∉C)
theorem gF{E C:List Nat}{h:Nat}:h∈less E C↔h∈E/\h∉C:=by simp[less,y_]
theorem AH(k:Ok W O s){C E:List Nat}(c:Cyc W O s C)(e:Cyc W O s E):Cyc W O (minus W s C) (less E C):=by
 have stay:∀n h,h∈less E C->it (cf W O (minus W s C)) n h=it (cf W O s) n h:=by
  intro n
  induction n with
 |zero=>intro h _;rfl
 |succ n ih=>intro h hh;obtain⟨h1,h2⟩:=gF.mp hh;show it _ n (cf W O (minus W s C) h)=it _ n (cf W O s h);rw[AT k c e h1 h2];exact ih _ (gF.mpr ⟨e.cl h h1,e.out c h1 h2⟩)
 refine⟨fun h hh=>?_,fun h hh=>?_,fun h hh=>?_⟩
 .obtain⟨h1,h2⟩:=gF.mp hh;exact y_.mpr ⟨e.sub h h1,by simpa using h2⟩
 .obtain⟨h1,h2⟩:=gF.mp hh;rw[AT k c e h1 h2];exact gF.mpr ⟨e.cl h h1,e.out c h1 h2⟩
 .obtain⟨h1,h2⟩:=gF.mp hh;obtain⟨n,hn⟩:=e.per h h1;exact⟨n,by rw[stay _ _ hh];exact hn⟩
theorem k6{p q:Nat->Bool}{l:List Nat}(h:∀x∈l,p x=q x):l.filter p=l.filter q:=by induction l with
|nil=>rfl
|cons a l ih=>rw[ME,ME,h a e_,ih fun x hx=>h x (c_ _ hx)]
theorem BL(k:Ok W O s){C E:List Nat}(c:Cyc W O s C)(e:Cyc W O s E):minus W (minus W s C) (less E C)=minus W s (C++E):=by
 have h1:(minus W (minus W s C) (less E C)).line=(minus W s (C++E)).line:=by show((s.line.filter _).filter _)=s.line.filter _;rw[Nu];refine k6 fun x _=>?_;by_cases hc:x∈C <;> by_cases he:x∈E <;> simp[gF,hc,he]
 have h2:(minus W (minus W s C) (less E C)).things=(minus W s (C++E)).things:=by
  show((s.things.filter _).filter _)=s.things.filter _;rw[Nu];refine k6 fun x _=>?_;have key:x∈(less E C).map (bY W (minus W s C))↔∃h,h∈E/\h∉C/\bY W s h=x:=by
   rw[q_];constructor
   .rintro⟨h,hh,q⟩
    obtain⟨a,b⟩:=gF.mp hh;exact⟨h,a,b,by rw[<-q,mr k c e a b]⟩
   .rintro⟨h,a,b,q⟩
    exact⟨h,gF.mpr ⟨a,b⟩,by rw[mr k c e a b];exact q⟩
  have key2:x∈(C++E).map (bY W s)↔x∈C.map (bY W s)\/x∈(less E C).map (bY W (minus W s C)):=by
   rw[key,MN,M9];constructor
   .rintro(z|z)
    .exact .inl z
    .obtain⟨h,a,b⟩:=q_.mp z;by_cases hc:h∈C
     .exact .inl (q_.mpr ⟨h,hc,b⟩)
     .exact .inr ⟨h,a,hc,b⟩
   .rintro(z|⟨h,a,_,b⟩)
    .exact .inl z
    .exact .inr (q_.mpr ⟨h,a,b⟩)
  rw[Ms];simp only[I_,decide_eq_true_eq];rw[key2];constructor
  .rintro⟨a,b⟩ (z|z)
   .exact b z
   .exact a z
  .intro z;exact⟨fun q=>z (.inr q),fun q=>z (.inl q)⟩
 cases e1:minus W (minus W s C) (less E C);cases e2:minus W s (C++E);rw[e1,e2]at h1 h2;simp only at h1 h2;rw[h1,h2]
theorem Ki(k:Ok W O s){C E:List Nat}(c:Cyc W O s C)(e:Cyc W O s E):minus W (minus W s C) (less E C)=minus W (minus W s E) (less C E):=by
 rw[BL k c e,BL k e c];unfold minus;congr 1
 .exact k6 fun x _=>by rw[Ms];simp[and_comm]
 .refine k6 fun x _=>?_;rw[Ms];simp only[decide_eq_true_eq,MN,M9];constructor <;> intro z q <;> exact z q.symm
inductive TTC(W:Nat->List Nat)(O:Nat->Option Nat)(a:Nat->Nat):S->Prop where
 |nil {s:S}:s.line=[]->TTC W O a s
 |step {s:S} (C:List Nat):Cyc W O s C->(∀h∈C,a h=bY W s h)->TTC W O a (minus W s C)->TTC W O a s
theorem rJ{a:Nat->Nat}(t:TTC W O a s):∀(k:Ok W O s){E:List Nat},Cyc W O s E->TTC W O a (minus W s E)/\∀h∈E,a h=bY W s h:=by induction t with
|nil h0=>intro k E e;refine⟨.nil (by unfold minus;rw[h0];rfl),fun h hh=>?_⟩;have:=e.sub h hh;rw[h0]at this;cases this
|step C c ha t ih=>
  intro k E e;obtain⟨h1,h2⟩:=ih (oI k c) (AH k c e);refine⟨.step (less C E) (AH k e c) (fun h hh=>?_) (by rw[<-Ki k c e];exact h1),fun h hh=>?_⟩
  .obtain⟨z1,z2⟩:=gF.mp hh;rw[mr k e c z1 z2];exact ha h z1
  .by_cases hc:h∈C
   .exact ha h hc
   .rw[h2 h (gF.mpr ⟨hh,hc⟩),mr k c e hh hc]
theorem BS{a b:Nat->Nat}(t:TTC W O a s)(k:Ok W O s)(u:TTC W O b s):∀h∈s.line,a h=b h:=by induction t with
|nil h0=>intro h hh;rw[h0]at hh;cases hh
|step C c ha t ih=>
  intro h hh;obtain⟨h1,h2⟩:=rJ u k c;by_cases hc:h∈C
  .rw[ha h hc,h2 h hc]
  .exact ih (oI k c) h1 h (y_.mpr ⟨hh,by simpa using hc⟩)
end
end Rg
end
section
namespace Rg
section
variable{W:Nat->List Nat}{O:Nat->Option Nat}{s:S}{a:Nat->Nat}
theorem re{f:Nat->Nat}{l:List Nat}(hcl:∀h∈l,f h∈l){x:Nat}(hx:x∈l):∃i j,i<j/\j<=l.length/\it f i x=it f j x:=by
 have mem:∀i,it f i x∈l:=by
  intro i
  induction i with
 |zero=>exact hx
 |succ i ih=>rw[kT];exact hcl _ ih
 by_cases hn:((a_ (l.length+1)).map fun i=>it f i x).Nodup
 .have:=k8 hn (m:=l) fun y hy=>by obtain⟨i,_,rfl⟩:=q_.mp hy;exact mem i
  simp at this;omega
 .apply Nk;intro h;apply hn;rw[List.nodup_iff_pairwise_ne]at *;rw[List.pairwise_map];refine SU (R:=fun i j=>i<j) (fun hi hj hij e=>?_) List.pairwise_lt_range;exact h ⟨_,_,hij,by have:=k_.mp hj;omega,e⟩
theorem nX{P:Nat->Prop}:(∃n,P n)->∃n,P n/\∀k,k<n->¬ P k:=by
 rintro⟨n,hn⟩
 induction n using Nat.strongRecOn with
|_ n ih=>
  by_cases h:∃k,k<n/\P k
  .obtain⟨k,h1,h2⟩:=h;exact ih k h1 h2
  .exact⟨n,hn,fun k hk hp=>h ⟨k,hk,hp⟩⟩
theorem zt{α:Type}(f:α->α)(a b:Nat)(x:α):it f a (it f b x)=it f b (it f a x):=by rw[<-g8,<-g8,Rp]
theorem KM{f:Nat->Nat}{l:List Nat}(hcl:∀h∈l,f h∈l)(hne:l≠[]):∃z p,z∈l/\0<p/\p<=l.length/\it f p z=z/\∀i,0<i->i<p->z<it f i z:=by
 have mem:∀x∈l,∀i,it f i x∈l:=by
  intro x hx i
  induction i with
 |zero=>exact hx
 |succ i ih=>rw[kT];exact hcl _ ih
 obtain⟨x,hx⟩:=NA l hne;obtain⟨i,j,hij,_,e⟩:=re hcl hx;obtain⟨z,⟨hz,k,hk⟩,hmin⟩:=nX (P:=fun z=>z∈l/\∃k,it f (k+1) z=z) ⟨it f i x,mem x hx i,j-i-1,by rw[<-g8,show i+(j-i-1+1)=j by omega];exact e.symm⟩;obtain⟨p,hp,hpm⟩:=nX (P:=fun p=>it f (p+1) z=z) ⟨k,hk⟩;have ge:∀i,z<=it f i z:=fun i=>by have:=hmin (it f i z);apply Nk;intro h;exact this (by omega) ⟨mem z hz i,p,by rw[zt,hp]⟩
 have ne:∀i,0<i->i<p+1->it f i z≠z:=fun i h1 h2 q=>hpm (i-1) (by omega) (by rw[show i-1+1=i by omega];exact q);refine⟨z,p+1,hz,Nat.succ_pos _,?_,hp,fun i h1 h2=>by have:=ge i;have:=ne i h1 h2;omega⟩;obtain⟨i,j,hij,hj,e⟩:=re hcl hz;apply Nk;intro h;have:it f (p+1-j+i) z=z:=by
  have h1:it f (p+1-j) (it f j z)=z:=by rw[<-g8,show j+(p+1-j)=p+1 by omega];exact hp
  rw[<-e,<-g8]at h1;rw[Rp];exact h1
 exact ne _ (by omega) (by omega) this
def gx(f:Nat->Nat)(n first:Nat):Nat->List Nat->Nat->Option (List Nat)
|0,_,_=>none
|k+1,ring,hand=>if first<hand/\ring.length<n then gx f n first k (ring++[hand]) (f hand)else if hand=first then some ring else none
def iQ(f:Nat->Nat)(n first:Nat):Option (List Nat):=gx f n first (n+1) [first] (f first)
def fB(f:Nat->Nat)(x n:Nat):List Nat:=(a_ n).map fun i=>it f i x
theorem AZ(f:Nat->Nat)(x n:Nat):fB f x (n+1)=fB f x n++[it f n x]:=by unfold fB;rw[Oz,MN];rfl
theorem Al(f:Nat->Nat)(x n:Nat):(fB f x n).length=n:=by simp[fB]
theorem Kx{f:Nat->Nat}{n first:Nat}:∀{k i:Nat}{r:List Nat},gx f n first k (fB f first i) (it f i first)=some r->∃j,i<=j/\r=fB f first j/\it f j first=first:=by
 intro k
 induction k with
|zero=>intro i r h;cases h
|succ k ih=>
  intro i r h;unfold gx at h;split at h
  .rw[<-AZ,<-kT f]at h;obtain⟨j,h1,h2⟩:=ih h;exact⟨j,by omega,h2⟩
  .split at h
   .rename_i e;cases h;exact⟨i,w_ _,rfl,e⟩
   .cases h
theorem BM{f:Nat->Nat}{n first:Nat}{r:List Nat}(h:iQ f n first=some r):∃j,0<j/\r=fB f first j/\it f j first=first:=by
 have h':gx f n first (n+1) (fB f first 1) (it f 1 first)=some r:=h
 obtain⟨j,h1,h2⟩:=Kx h';exact⟨j,by omega,h2⟩
theorem Ld{f:Nat->Nat}{n z p:Nat}(hp:p<=n)(he:it f p z=z)(hg:∀i,0<i->i<p->z<it f i z):∀{k i:Nat},0<i->i<=p->p<k+i->gx f n z k (fB f z i) (it f i z)=some (fB f z p):=by
 intro k
 induction k with
|zero=>intro i h1 h2 h3;omega
|succ k ih=>
  intro i h1 h2 h3;unfold gx;by_cases hi:i=p
  .subst hi;rw[if_neg (by rw[he];omega),if_pos he]
  .rw[if_pos ⟨hg i h1 (by omega),by rw[Al];omega⟩,<-AZ,<-kT f];exact ih (by omega) (by omega) (by omega)
theorem K8{f:Nat->Nat}{n z p:Nat}(h0:0<p)(hp:p<=n)(he:it f p z=z)(hg:∀i,0<i->i<p->z<it f i z):iQ f n z=some (fB f z p):=by show gx f n z (n+1) (fB f z 1) (it f 1 z)=_;exact Ld hp he hg (by omega) h0 (by omega)
def fj(W:Nat->List Nat)(O:Nat->Option Nat)(s:S):List (List Nat):=s.line.filterMap fun h=>iQ (cf W O s) s.line.length h
theorem Ag{C:List Nat}(hC:∀h,h∈C->∃r∈fj W O s,h∈r)(hC':∀r∈fj W O s,∀h∈r,h∈C):Cyc W O s C:=by
 have one:∀r∈fj W O s,∃x j,x∈s.line/\0<j/\r=fB (cf W O s) x j/\it (cf W O s) j x=x:=fun r hr=>by obtain⟨x,h1,h2⟩:=Na.mp hr;obtain⟨j,h3,h4,h5⟩:=BM h2;exact⟨x,j,h1,h3,h4,h5⟩
 have hm:∀x∈s.line,∀i,it (cf W O s) i x∈s.line:=by
  intro x hx i
  induction i with
 |zero=>exact hx
 |succ i ih=>rw[kT];exact qW (Nt hx)
 refine⟨fun h hh=>?_,fun h hh=>?_,fun h hh=>?_⟩
 .obtain⟨r,hr,h1⟩:=hC h hh;obtain⟨x,j,hx,hj,rfl,he⟩:=one r hr;obtain⟨i,_,rfl⟩:=q_.mp h1;exact hm x hx i
 .obtain⟨r,hr,h1⟩:=hC h hh;obtain⟨x,j,hx,hj,rfl,he⟩:=one r hr;obtain⟨i,hi,rfl⟩:=q_.mp h1;have hi:=k_.mp hi;refine hC' _ hr _ ?_;rw[<-kT (cf W O s)];by_cases q:i+1=j
  .rw[q,he];exact q_.mpr ⟨0,k_.mpr hj,rfl⟩
  .exact q_.mpr ⟨i+1,k_.mpr (by omega),rfl⟩
 .obtain⟨r,hr,h1⟩:=hC h hh;obtain⟨x,j,hx,hj,rfl,he⟩:=one r hr;obtain⟨i,hi,rfl⟩:=q_.mp h1;exact⟨j-1,by rw[show j-1+1=j by omega,zt,he]⟩
theorem Kp(hne:s.line≠[]):fj W O s≠[]:=by obtain⟨z,p,h1,h2,h3,h4,h5⟩:=KM (f:=cf W O s) (l:=s.line) (fun h hh=>qW hne) hne;exact Nt (Na.mpr ⟨z,h1,K8 h2 h3 h4 h5⟩)
def cX(W:Nat->List Nat)(O:Nat->Option Nat)(s:S):List Nat:=(fj W O s).flatten
theorem AB:Cyc W O s (cX W O s):=Ag (fun h hh=>NV.mp hh) (fun r hr h hh=>NV.mpr ⟨r,hr,hh⟩)
theorem Af{f:Nat->Nat}{n x:Nat}{r:List Nat}(h:iQ f n x=some r):r≠[]:=by obtain⟨j,h1,rfl,_⟩:=BM h;intro z;have:=Al f x j;rw[z]at this;simp at this;omega
theorem zK(hne:s.line≠[]):cX W O s≠[]:=by have h:=Kp (W:=W) (O:=O) hne;cases q:fj W O s with
|nil=>exact absurd q h
|cons r t=>
  have hr:r∈fj W O s:=by rw[q];exact e_
  obtain⟨x,_,h2⟩:=Na.mp hr;unfold cX;rw[q,Rq];intro z;exact Af h2 (List.append_eq_nil_iff.mp z).1
theorem JH(hne:s.line≠[]):(minus W s (cX W O s)).line.length<s.line.length:=by have h:=zK (W:=W) (O:=O) hne;obtain⟨x,hx⟩:=NA _ h;have hx2:=(AB (W:=W) (O:=O) (s:=s)).sub x hx;have:=pG (fun h=>decide (h∉cX W O s)) s.line;have h3:0<(s.line.filter fun h=>! decide (h∉cX W O s)).length:=Np (y_.mpr ⟨hx2,by simpa using hx⟩);show(s.line.filter _).length<_;omega
def kn(W:Nat->List Nat)(O:Nat->Option Nat):Nat->S->Nat->Nat
|0,_,_=>0
|n+1,s,h=>if h∈cX W O s then bY W s h else kn W O n (minus W s (cX W O s)) h
theorem JS{b:Nat->Nat}(t:TTC W O a s):(∀h∈s.line,b h=a h)->TTC W O b s:=by induction t with
|nil h0=>exact fun _=>.nil h0
|@step s C c ha t ih=>exact fun e=>.step C c (fun h hh=>by rw[e h (c.sub h hh)];exact ha h hh) (ih fun h hh=>e h (y_.mp hh).1)
theorem D5:∀(n:Nat)(s:S),s.line.length<n->TTC W O (kn W O n s) s:=by
 intro n
 induction n with
|zero=>intro s h;omega
|succ n ih=>
  intro s h;by_cases hl:s.line=[]
  .exact .nil hl
  .have hlt:=JH (W:=W) (O:=O) hl;refine .step (cX W O s) AB (fun h hh=>?_) (JS (ih _ (by omega)) fun h hh=>?_)
   .show(if h∈cX W O s then _ else _)=_;rw[if_pos hh]
   .have:=(y_.mp hh).2;simp only[decide_eq_true_eq]at this;show(if h∈cX W O s then _ else _)=_;rw[if_neg this]
end
end Rg
end
section
namespace Rg
end Rg
end
section
namespace Rg
section
variable(W:Nat->List Nat)(d:Nat->Nat)
def iN:List Nat->List Nat->Prop
|[],_=>True
|h::l,T=>best (W h) T=d h/\iN l (T.erase (d h))
def aL:List Nat->List Nat->Nat->Nat
|[],_=>fun _=>0
|h::l,T=>fun x=>if x=h then best (W h) T else aL l (T.erase (best (W h) T)) x
variable{W d}
theorem sP{d':Nat->Nat}:∀{o T:List Nat},(∀x∈o,d x=d' x)->iN W d o T->iN W d' o T
|[],_,_,_=>trivial
|h::l,T,e,s=>by have e1:=e h e_;exact⟨by rw[<-e1];exact s.1,by rw[<-e1];exact sP (fun x hx=>e x (c_ _ hx)) s.2⟩
theorem qP:∀(o T:List Nat),o.Nodup->iN W (aL W o T) o T
|[],_,_=>trivial
|h::l,T,hn=>by
  have hn':=H_.mp hn;have e:aL W (h::l) T h=best (W h) T:=by simp[aL]
  refine⟨e.symm,?_⟩;rw[e];refine sP (fun x hx=>?_) (qP l _ hn'.2);have:x≠h:=by rintro rfl;exact hn'.1 hx
  simp[aL,this]
theorem zV:∀{o T:List Nat},iN W d o T->T.Nodup->o.length<=T.length->(∀h∈o,∀x∈T,x∈W h)->(∀h∈o,d h∈T)/\∀h∈o,∀l∈o,o.Nodup->d h=d l->h=l
|[],_,_,_,_,_=>⟨fun _ h=>(nomatch h),fun _ h=>(nomatch h)⟩
|a::o,T,s,hT,hl,hr=>by
  have hp:0<T.length:=by simp at hl;omega
  have hx:T[0]∈T:=Nr _;have hb:d a∈T:=by rw[<-s.1];exact oQ ⟨T[0],hr a e_ _ hx,hx⟩
  have hlen:(T.erase (d a)).length=T.length-1:=M6 hb;obtain⟨h1,h2⟩:=zV s.2 (hT.erase _) (by rw[hlen];simp at hl;omega) fun h hh x hx=>hr h (c_ _ hh) x (Nw hx);have h3:∀h∈o,d h≠d a:=fun h hh e=>by have:=h1 h hh;rw[e]at this;exact(List.Nodup.mem_erase_iff hT).mp this |>.1 rfl
  refine⟨fun h hh=>?_,fun h hh l hl' hn e=>?_⟩
  .rcases p_.mp hh with rfl|hh
   .exact hb
   .exact Nw (h1 h hh)
  .have hn':=H_.mp hn;rcases p_.mp hh with z|hh'
   .rcases p_.mp hl' with z'|hl''
    .exact z.trans z'.symm
    .subst z;exact absurd e.symm (h3 l hl'')
   .rcases p_.mp hl' with z'|hl''
    .subst z';exact absurd e (h3 h hh')
    .exact h2 h hh' l hl'' hn'.2 e
end
end Rg
end
section
namespace Fq
theorem AA(a:Int)(b:Nat):NH a b=NH b (a%(b:Int)):=by
 refine Nat.dvd_antisymm (Ts (NI _ _) ?_) (Ts ?_ (OV _ _))
 .rw[Int.emod_def];exact Int.dvd_sub (OV _ _) (SV (NI a b) (Rr _ _))
 .have h:=Int.mul_ediv_add_emod a b;rw[<-h];exact Int.dvd_add (SV (OV (b:Int) _) (Rr _ _)) (by rw[h];exact NI _ _)
theorem zJ(t:Int){b:Nat}(h:0<b):0<NH t b:=Nat.pos_of_ne_zero fun z=>by have:=Int.gcd_eq_zero_iff.mp z;omega
def low(t:Int)(b:Nat):Int×Nat:=(t/(NH t b:Int),b/NH t b)
def qo(a b:Int×Nat):Int×Nat:=low (a.1*b.2+b.1*a.2) (a.2*b.2)
def Same(a b:Int×Nat):Prop:=a.1*(b.2:Int)=b.1*(a.2:Int)
theorem rC(t:Int){b:Nat}(h:0<b):0<(low t b).2:=by have h1:NH t b∣b:=P5.mp (NI t b);exact Nat.div_pos (SX h h1) (zJ t h)
theorem EO(t:Int)(b:Nat):(low t b).2<=b:=Nat.div_le_self _ _
theorem GD(t:Int)(b:Nat):(low t b).1.natAbs<=t.natAbs:=Int.natAbs_ediv_le_natAbs _ _
theorem AJ(t:Int)(b:Nat):Same (low t b) (t,b):=by
 unfold Same low;have h1:(NH t b:Int)∣t:=OV t b;have h2:(NH t b:Int)∣(b:Int):=NI t b;obtain⟨x,hx⟩:=h1;obtain⟨y,hy⟩:=h2;generalize hg:(NH t b:Int)=g at hx hy;show t/g*(b:Int)=t*((b/NH t b:Nat):Int);rw[RD,hg];by_cases z:g=0
 .subst z;rw[Int.zero_mul]at hx hy;rw[hx,hy];simp
 .rw[hx,hy,PR _ z,PR _ z];rw[<-M7,N0 x g]
structure Bd(k:Nat)(a:Int×Nat):Prop where
 pos:0<a.2
 bot:a.2<2^k
 top:a.1.natAbs<2^k
theorem Bd.mono{k l:Nat}{a:Int×Nat}(h:Bd k a)(hl:k<=l):Bd l a:=⟨h.pos,A_ h.bot (Oi (by omega) hl),A_ h.top (Oi (by omega) hl)⟩
theorem Bd.low{k:Nat}{t:Int}{b:Nat}(h:0<b)(h1:b<2^k)(h2:t.natAbs<2^k):Bd k (low t b):=⟨rC t h,Pk (EO t b) h1,Pk (GD t b) h2⟩
theorem sN{a b k l:Nat}(h1:a<2^k)(h2:b<2^l):a*b<2^(k+l):=by rw[Nat.pow_add];exact Nat.mul_lt_mul'' h1 h2
theorem IT{k l:Nat}{a b:Int×Nat}(ha:Bd k a)(hb:Bd l b):0<a.2*b.2/\a.2*b.2<2^(k+l):=⟨RK ha.pos hb.pos,sN ha.bot hb.bot⟩
theorem IU{k l:Nat}{a b:Int×Nat}(ha:Bd k a)(hb:Bd l b):(a.1*b.2+b.1*a.2).natAbs<2^(k+l+1):=by
 have h1:(a.1*(b.2:Int)).natAbs<2^(k+l):=by rw[Sc,Pp];exact sN ha.top hb.bot
 have h2:(b.1*(a.2:Int)).natAbs<2^(k+l):=by rw[Sc,Pp,Rp k l];exact sN hb.top ha.bot
 have h3:=Int.natAbs_add_le (a.1*(b.2:Int)) (b.1*(a.2:Int));rw[Tj];omega
theorem Bd.plus{k l:Nat}{a b:Int×Nat}(ha:Bd k a)(hb:Bd l b):Bd (k+l+1) (qo a b):=by obtain⟨h1,h2⟩:=IT ha hb;exact Bd.low h1 (A_ h2 (Oi (by omega) (by omega))) (IU ha hb)
def Dd(a b:Int×Nat):Bool:=decide (a.1*(b.2:Int)<b.1*(a.2:Int))
end Fq
end
section
namespace Rg
theorem zR{α:Type}(f:α->Nat)(os:List α):∀P:List Nat,P.Nodup->(P.map fun t=>os.countP fun o=>decide (f o=t)).sum=os.countP fun o=>decide (f o∈P)
|[],_=>by simp
|t::P,hn=>by
  have hn':=H_.mp hn;rw[G_,List.sum_cons,zR f os P hn'.2];clear hn
  induction os with
 |nil=>rfl
 |cons o os ih=>
   rw[Op,Op,Op,<-ih];by_cases h1:f o=t
   .have h2:f o∉P:=by rw[h1];exact hn'.1
    simp[h1,hn'.1];omega
   .by_cases h2:f o∈P
    .simp[h1,h2];omega
    .simp[h1,h2]
end Rg
namespace Fq
def W(N:Nat)(a:Int×Nat)(S:Nat):Prop:=0<a.2/\a.1*(N:Int)=(S:Int)*(a.2:Int)
theorem W.low{N c:Nat}(hN:0<N):W N (low c N) c:=by have:=AJ (c:Int) N;exact⟨rC _ hN,this⟩
theorem W.plus{N S c:Nat}{a b:Int×Nat}(ha:W N a S)(hb:W N b c):W N (qo a b) (S+c):=by
 have hp:0<a.2*b.2:=RK ha.1 hb.1;refine⟨rC _ hp,?_⟩;have h:=AJ (a.1*(b.2:Int)+b.1*(a.2:Int)) (a.2*b.2);unfold Same at h;unfold qo;generalize Fq.low (a.1*(b.2:Int)+b.1*(a.2:Int)) (a.2*b.2)=p at h ⊢;have h1:=ha.2;have h2:=hb.2;have hq:((a.2*b.2:Nat):Int)≠0:=by omega
 refine Int.eq_of_mul_eq_mul_right hq ?_;have e1:p.1*(N:Int)*((a.2*b.2:Nat):Int)=(p.1*((a.2*b.2:Nat):Int))*(N:Int):=by rw[M7,N0 (N:Int),<-M7]
 rw[e1,h];show(a.1*(b.2:Int)+b.1*(a.2:Int))*(p.2:Int)*(N:Int)=(((S+c:Nat):Int))*(p.2:Int)*((a.2*b.2:Nat):Int);have e2:(a.1*(b.2:Int)+b.1*(a.2:Int))*(p.2:Int)*(N:Int)=((a.1*(N:Int))*(b.2:Int)+(b.1*(N:Int))*(a.2:Int))*(p.2:Int):=by
  rw[QJ,QJ,QJ];congr 1
  .simp only[M7,N0,PD]
  .simp only[M7,N0,PD]
 rw[e2,h1,h2,RQ,RS];simp only[QJ];congr 1 <;> simp only[M7,N0,PD]
theorem W.ge{N S S':Nat}{a b:Int×Nat}(hN:0<N)(ha:W N a S)(hb:W N b S')(h:S'<=S):Dd a b=false:=by
 refine decide_eq_false fun hlt=>?_;have h1:=Int.mul_lt_mul_of_pos_right hlt (show(0:Int)<(N:Int)by omega);have e1:a.1*(b.2:Int)*(N:Int)=(S:Int)*((a.2:Int)*(b.2:Int)):=by rw[M7,N0 (b.2:Int),<-M7,ha.2,M7]
 have e2:b.1*(a.2:Int)*(N:Int)=(S':Int)*((a.2:Int)*(b.2:Int)):=by rw[M7,N0 (a.2:Int),<-M7,hb.2,M7,N0 (b.2:Int)]
 rw[e1,e2]at h1;have hp:(0:Int)<=(a.2:Int)*(b.2:Int):=by rw[<-RS];exact N4 _
 have:=Int.lt_of_mul_lt_mul_right h1 hp;omega
end Fq
end
section
namespace Rg
theorem ss{row T T':List Nat}(h:∀x,x∈T↔x∈T'):best row T=best row T':=by unfold best;rw[show(fun x=>decide (x∈T))=fun x=>decide (x∈T')from funext fun x=>decide_eq_decide.mpr (h x)]
theorem mS:∀{l m:List Nat},l.Nodup->(∀x∈l,x∈m)->m.length<=l.length->l.Perm m
|[],m,_,_,hl=>by have:m=[]:=O0 (by simpa using hl);rw[this]
|a::l,m,hn,hs,hl=>by
  have hn':=H_.mp hn;have ha:=hs a e_;refine List.Perm.trans ?_ (QK ha).symm;refine List.Perm.cons a (mS hn'.2 (fun x hx=>?_) ?_)
  .have:x≠a:=by rintro rfl;exact hn'.1 hx
   exact(Oh this).mpr (hs x (c_ _ hx))
  .rw[M6 ha];simp at hl;omega
theorem k7{f:Nat->Nat}:∀{l:List Nat},l.Nodup->(∀x∈l,∀y∈l,f x=f y->x=y)->(l.map f).Nodup
|[],_,_=>by simp
|a::l,hn,hi=>by have hn':=H_.mp hn;rw[G_];refine H_.mpr ⟨fun z=>?_,k7 hn'.2 fun x hx y hy=>hi x (c_ _ hx) y (c_ _ hy)⟩;obtain⟨b,hb,e⟩:=q_.mp z;have:=hi b (c_ _ hb) a e_ e;rw[this]at hb;exact hn'.1 hb
theorem kh{f:Nat->Nat}{l:List Nat}(hn:l.Nodup)(hm:∀x∈l,f x∈l)(hi:∀x∈l,∀y∈l,f x=f y->x=y):∀y∈l,∃x∈l,f x=y:=by intro y hy;have p:=mS (k7 hn hi) (m:=l) (fun x hx=>by obtain⟨a,ha,rfl⟩:=q_.mp hx;exact hm a ha) (by simp);obtain⟨a,ha,e⟩:=q_.mp (p.mem_iff.mpr hy);exact⟨a,ha,e⟩
theorem it_cl{A:Nat->Prop}{f:Nat->Nat}(hc:∀x,A x->A (f x)):∀(k x:Nat),A x->A (it f k x)
|0,_,h=>h
|k+1,x,h=>it_cl hc k (f x) (hc x h)
theorem sd{A:Nat->Prop}{f g:Nat->Nat}(hc:∀x,A x->A (f x))(he:∀x,A x->f x=g x):∀(k x:Nat),A x->it f k x=it g k x
|0,_,_=>rfl
|k+1,x,h=>by show it f k (f x)=it g k (g x);rw[sd hc he k (f x) (hc x h),he x h]
theorem yN{A:Nat->Prop}{f:Nat->Nat}(hc:∀x,A x->A (f x))(hi:∀x,A x->∀y,A y->f x=f y->x=y):∀(k x y:Nat),A x->A y->it f k x=it f k y->x=y
|0,_,_,_,_,e=>e
|k+1,x,y,hx,hy,e=>hi x hx y hy (yN hc hi k (f x) (f y) (hc x hx) (hc y hy) e)
section
variable(W:Nat->List Nat)(d:Nat->Nat)
def Mn(o:List Nat)(x:Nat):Prop:=best (W x) (o.map d)=d x
def eZ:List Nat->Prop
|[]=>True
|v::o=>Mn W d (v::o) v/\eZ o
def Sv(o:List Nat)(f:Nat->Nat)(c:Nat):Prop:=c∈o/\∀k,Mn W d o (it f k c)
def Ps(v:Nat)(o:List Nat)(f:Nat->Nat)(c:Nat):Prop:=c∈o/\∀k,Mn W d (v::o) (it f k c)
inductive Bl:List Nat->(Nat->Nat)->Prop where
 |nil:Bl [] id
|alone {v:Nat} {o:List Nat} {f:Nat->Nat}:Bl o f->(∀c,Ps W d v o f c->v<c)->Bl (v::o) (fun x=>if x=v then v else f x)
|ins {v c:Nat} {o:List Nat} {f:Nat->Nat}:Bl o f->Ps W d v o f c->(∀b,Ps W d v o f b->c<=b)->c<v->Bl (v::o) (fun x=>if x=v then f c else if x=c then v else f x)
variable{W d}
theorem wP:∀o:List Nat,o.Nodup->∃f,Bl W d o f
|[],_=>⟨_,.nil⟩
|v::o,hn=>by
  have hn':=H_.mp hn;obtain⟨f,b⟩:=wP o hn'.2;by_cases h:∃c,Ps W d v o f c/\c<v
  .obtain⟨c,⟨h1,h2⟩,h3⟩:=nX h;refine⟨_,.ins b h1 (fun b hb=>?_) h2⟩;apply Nk;intro z;exact h3 b (by omega) ⟨hb,by omega⟩
  .refine⟨_,.alone b fun c hc=>?_⟩;have h1:¬ c<v:=fun z=>h ⟨c,hc,z⟩;have h2:c≠v:=by rintro rfl;exact hn'.1 hc.1
   omega
theorem gC{o:List Nat}{f:Nat->Nat}(b:Bl W d o f):∀x∈o,f x∈o:=by induction b with
|nil=>intro x hx;cases hx
|@alone v o f b _ ih=>
  intro x hx;show(if x=v then v else f x)∈_;by_cases e:x=v
  .rw[if_pos e];exact e_
  .rw[if_neg e];exact c_ _ (ih x ((p_.mp hx).resolve_left e))
|@ins v c o f b hc _ _ ih=>
  intro x hx;show(if x=v then f c else if x=c then v else f x)∈_;by_cases e:x=v
  .rw[if_pos e];exact c_ _ (ih c hc.1)
  .rw[if_neg e];by_cases e2:x=c
   .rw[if_pos e2];exact e_
   .rw[if_neg e2];exact c_ _ (ih x ((p_.mp hx).resolve_left e))
theorem rN{v:Nat}{o:List Nat}{t:Nat->Nat}(b:Bl W d (v::o) t)(hn:v∉o)(hv:Mn W d (v::o) v):∃f,Bl W d o f/\(∀x∈o,f x=if t x=v then t v else t x)/\(∀h,Sv W d (v::o) t h↔h=v\/Ps W d v o f h)/\(∀c,Sv W d (v::o) t c->(∀a,Sv W d (v::o) t a->c<=a)->t c=v)/\(∀x,x≠v->t x=v\/t x=f x)/\(∀x∈o,x≠v)/\(t v=v\/∃c∈o,t v=f c/\t c=v):=by
 have nev:∀x∈o,x≠v:=fun x hx=>by rintro rfl;exact hn hx
 have key:∀f,Bl W d o f->(∀x∈o,f x=if t x=v then t v else t x)->(∀x∈o,t x=v\/t x=f x)->(t v=v\/∃c,Ps W d v o f c/\t v=f c)->∀h,Sv W d (v::o) t h↔h=v\/Ps W d v o f h:=by
  intro f bf e1 e2 e3 h;have shift:∀x,Ps W d v o f x->Ps W d v o f (f x):=fun x hx=>⟨gC bf x hx.1,fun k=>hx.2 (k+1)⟩
  constructor
  .intro s;by_cases e:h=v
   .exact .inl e
   .right;have hA:∀x,Sv W d (v::o) t x/\x≠v->Sv W d (v::o) t (f x)/\f x≠v:=by
     rintro x ⟨sx,nx⟩
     have hxo:x∈o:=(p_.mp sx.1).resolve_left nx;have sh:∀y,Sv W d (v::o) t y->Sv W d (v::o) t (t y):=fun y hy=>⟨gC b y hy.1,fun k=>hy.2 (k+1)⟩
     refine⟨?_,nev _ (gC bf x hxo)⟩;rw[e1 x hxo];by_cases z:t x=v
     .rw[if_pos z];have:=sh _ (sh x sx);rwa[z]at this
     .rw[if_neg z];exact sh x sx
    exact⟨(p_.mp s.1).resolve_left e,fun k=>(it_cl (A:=fun x=>Sv W d (v::o) t x/\x≠v) hA k h ⟨s,e⟩).1.2 0⟩
  .intro hh;have hA:∀x,(x=v\/Ps W d v o f x)->(t x=v\/Ps W d v o f (t x)):=by
    rintro x (rfl|hx)
    .rcases e3 with z|⟨c,hc,z⟩
     .exact .inl z
     .rw[z];exact .inr (shift c hc)
    .rcases e2 x hx.1 with z|z
     .exact .inl z
     .rw[z];exact .inr (shift x hx)
   refine⟨hh.elim (fun e=>by rw[e];exact e_) fun p=>c_ _ p.1,fun k=>?_⟩;rcases it_cl (A:=fun x=>x=v\/Ps W d v o f x) hA k h hh with z|z
   .rw[z];exact hv
   .exact z.2 0
 cases b with
|@alone _ _ f b hlt=>
  have e1:∀x∈o,f x=if (if x=v then v else f x)=v then(if v=v then v else f v)else(if x=v then v else f x):=fun x hx=>by rw[if_neg (nev x hx),if_neg (nev _ (gC b x hx))]
  have k:=key f b e1 (fun x hx=>.inr (if_neg (nev x hx))) (.inl (if_pos rfl));refine⟨f,b,e1,k,fun c hc hm=>?_,fun x hx=>.inr (if_neg hx),nev,.inl (if_pos rfl)⟩;have h1:=hm v ((k v).mpr (.inl rfl));rcases(k c).mp hc with z|z
  .rw[z];exact if_pos rfl
  .have:=hlt c z;omega
|@ins _ c _ f b hc hmin hlt=>
  have hcv:c≠v:=by omega
  have tv:(if v=v then f c else if v=c then v else f v)=f c:=if_pos rfl;have tc:(if c=v then f c else if c=c then v else f c)=v:=by rw[if_neg hcv,if_pos rfl]
  have e1:∀x∈o,f x=if (if x=v then f c else if x=c then v else f x)=v then(if v=v then f c else if v=c then v else f v)else(if x=v then f c else if x=c then v else f x):=fun x hx=>by
   rw[if_neg (nev x hx),tv];by_cases e:x=c
   .rw[if_pos e,if_pos rfl,e]
   .rw[if_neg e,if_neg (nev _ (gC b x hx))]
  have k:=key f b e1 (fun x hx=>by
   show(if x=v then f c else if x=c then v else f x)=v\/(if x=v then f c else if x=c then v else f x)=f x;rw[if_neg (nev x hx)];by_cases e:x=c
   .rw[if_pos e];exact .inl rfl
   .rw[if_neg e];exact .inr rfl) (.inr ⟨c,hc,tv⟩)
  refine⟨f,b,e1,k,fun c2 hc2 hm=>?_,fun x hx=>?_,nev,.inr ⟨c,hc.1,tv,tc⟩⟩
  .have h1:=hm c ((k c).mpr (.inr hc));rcases(k c2).mp hc2 with z|z
   .omega
   .have h2:=hmin c2 z;have:c2=c:=by omega
    rw[this];exact tc
  .show(if x=v then f c else if x=c then v else f x)=v\/(if x=v then f c else if x=c then v else f x)=f x;rw[if_neg hx];by_cases e:x=c
   .rw[if_pos e];exact .inl rfl
   .rw[if_neg e];exact .inr rfl
theorem qR:∀{o:List Nat}{f:Nat->Nat},Bl W d o f->o.Nodup->∀x∈o,∀y∈o,f x=f y->x=y:=by
 intro o f b
 induction b with
|nil=>intro _ x hx;cases hx
|@alone v o f b _ ih=>
  intro hn x hx y hy e;have hn':=H_.mp hn;have e:(if x=v then v else f x)=(if y=v then v else f y):=e;have fo:∀z∈o,f z≠v:=fun z hz q=>hn'.1 (q▸gC b z hz);by_cases h1:x=v <;> by_cases h2:y=v
  .rw[h1,h2]
  .rw[if_pos h1,if_neg h2]at e;exact absurd e.symm (fo y ((p_.mp hy).resolve_left h2))
  .rw[if_neg h1,if_pos h2]at e;exact absurd e (fo x ((p_.mp hx).resolve_left h1))
  .rw[if_neg h1,if_neg h2]at e;exact ih hn'.2 x ((p_.mp hx).resolve_left h1) y ((p_.mp hy).resolve_left h2) e
|@ins v c o f b hc _ _ ih=>
  intro hn x hx y hy e;have hn':=H_.mp hn;have e:(if x=v then f c else if x=c then v else f x)=(if y=v then f c else if y=c then v else f y):=e;have fo:∀z∈o,f z≠v:=fun z hz q=>hn'.1 (q▸gC b z hz);by_cases h1:x=v <;> by_cases h2:y=v
  .rw[h1,h2]
  .have hy':=(p_.mp hy).resolve_left h2;rw[if_pos h1,if_neg h2]at e;by_cases h3:y=c
   .rw[if_pos h3]at e;exact absurd e (fo c hc.1)
   .rw[if_neg h3]at e;exact absurd (ih hn'.2 c hc.1 y hy' e).symm h3
  .have hx':=(p_.mp hx).resolve_left h1;rw[if_neg h1,if_pos h2]at e;by_cases h3:x=c
   .rw[if_pos h3]at e;exact absurd e.symm (fo c hc.1)
   .rw[if_neg h3]at e;exact absurd (ih hn'.2 x hx' c hc.1 e) h3
  .have hx':=(p_.mp hx).resolve_left h1;have hy':=(p_.mp hy).resolve_left h2;rw[if_neg h1,if_neg h2]at e;by_cases h3:x=c <;> by_cases h4:y=c
   .rw[h3,h4]
   .rw[if_pos h3,if_neg h4]at e;exact absurd e.symm (fo y hy')
   .rw[if_neg h3,if_pos h4]at e;exact absurd e (fo x hx')
   .rw[if_neg h3,if_neg h4]at e;exact ih hn'.2 x hx' y hy' e
theorem yP{o o':List Nat}(h:∀x,x∈o↔x∈o')(x:Nat):Mn W d o x↔Mn W d o' x:=by unfold Mn;rw[ss (T:=o.map d) (T':=o'.map d) fun y=>by simp only[q_,h]]
theorem zN:∀(o1 o2:List Nat)(f1 f2:Nat->Nat),Bl W d o1 f1->Bl W d o2 f2->o1.Nodup->o2.Nodup->eZ W d o1->eZ W d o2->(∀x,x∈o1↔x∈o2)->(∀x∈o1,f1 x=f2 x)->o1=o2
|[],[],_,_,_,_,_,_,_,_,_,_=>rfl
|[],v::o,_,_,_,_,_,_,_,_,h,_=>absurd ((h v).mpr e_) (by simp)
|v::o,[],_,_,_,_,_,_,_,_,h,_=>absurd ((h v).mp e_) (by simp)
|v::o,v'::o',t,t',b,b',hn,hn',s,s',h,e=>by
  have n1:=H_.mp hn;have n2:=H_.mp hn';obtain⟨f,bf,e1,k,l,_⟩:=rN b n1.1 s.1;obtain⟨f',bf',e1',k',l',_⟩:=rN b' n2.1 s'.1;have same:∀c,Sv W d (v::o) t c↔Sv W d (v'::o') t' c:=by
   intro c;have ag:∀n x,x∈v::o->it t n x=it t' n x:=sd (A:=fun x=>x∈v::o) (fun x hx=>gC b x hx) e;unfold Sv;rw[h c];constructor
   .rintro⟨a,z⟩;exact⟨a,fun n=>by rw[<-ag n c ((h c).mpr a)];exact(yP h _).mp (z n)⟩
   .rintro⟨a,z⟩;exact⟨a,fun n=>by rw[ag n c ((h c).mpr a)];exact(yP h _).mpr (z n)⟩
  obtain⟨c,hc,hm⟩:=nX (P:=Sv W d (v::o) t) ⟨v,(k v).mpr (.inl rfl)⟩;have hm':∀a,Sv W d (v::o) t a->c<=a:=fun a ha=>Nk fun z=>hm a (by omega) ha;have q1:=l c hc hm';have q2:=l' c ((same c).mp hc) fun a ha=>hm' a ((same a).mpr ha);rw[e c hc.1]at q1;have hv:v=v':=q1.symm.trans q2;subst hv;have ho:∀x,x∈o↔x∈o':=fun x=>by
   constructor
   .intro hx;have:x≠v:=by rintro rfl;exact n1.1 hx
    exact(p_.mp ((h x).mp (c_ _ hx))).resolve_left this
   .intro hx;have:x≠v:=by rintro rfl;exact n2.1 hx
    exact(p_.mp ((h x).mpr (c_ _ hx))).resolve_left this
  rw[zN o o' f f' bf bf' n1.2 n2.2 s.2 s'.2 ho fun x hx=>by rw[e1 x hx,e1' x ((ho x).mp hx),e x (c_ _ hx),e v e_]]
end
end Rg
end
section
namespace Rg
section
variable{W:Nat->List Nat}{d:Nat->Nat}{O O':Nat->Option Nat}{L:List Nat}
theorem B5{p q:Nat->Bool}:∀{l:List Nat},(∀x∈l,p x=q x)->l.find? p=l.find? q
|[],_=>rfl
|a::l,h=>by rw[K_,K_,h a e_,B5 fun x hx=>h x (c_ _ hx)]
theorem Ba{s:S}(h:∀x∈s.line,O x=O' x)(a:Nat):cf W O s a=cf W O' s a:=by unfold cf pt;rw[B5 (p:=fun h=>decide (O h=some (bY W s a))) (q:=fun h=>decide (O' h=some (bY W s a))) fun x hx=>by rw[h x hx]]
theorem Ln{a:Nat->Nat}{s:S}(t:TTC W O a s):(∀x∈s.line,O x=O' x)->TTC W O' a s:=by induction t with
|nil h=>exact fun _=>.nil h
|@step s C c ha t ih=>
  intro h;refine .step C ⟨c.sub,fun x hx=>?_,fun x hx=>?_⟩ ha (ih fun x hx=>h x (y_.mp hx).1)
  .rw[<-Ba h];exact c.cl x hx
  .obtain⟨k,hk⟩:=c.per x hx;refine⟨k,?_⟩;rw[show cf W O' s=cf W O s from funext fun y=>(Ba h y).symm];exact hk
def st(L:List Nat)(d:Nat->Nat)(o:List Nat):S:=⟨L.filter fun h=>decide (h∈o),L.filter fun x=>decide (x∈o.map d)⟩
structure Sce(W:Nat->List Nat)(L:List Nat)(d:Nat->Nat)(o:List Nat):Prop where
 nl:L.Nodup
 no:o.Nodup
 ol:∀h∈o,h∈L
 dl:∀h∈o,d h∈L
 di:∀h∈o,∀l∈o,d h=d l->h=l
 row:∀h∈o,∀x∈L,x∈W h
theorem Sce.tail{v:Nat}{o:List Nat}(s:Sce W L d (v::o)):Sce W L d o:=⟨s.nl,(H_.mp s.no).2,fun h hh=>s.ol h (c_ _ hh),fun h hh=>s.dl h (c_ _ hh),fun h hh l hl=>s.di h (c_ _ hh) l (c_ _ hl),fun h hh=>s.row h (c_ _ hh)⟩
theorem jh{o:List Nat}(s:Sce W L d o){h:Nat}:h∈(st L d o).line↔h∈o:=by unfold st;simp only[y_,decide_eq_true_eq];exact⟨fun z=>z.2,fun z=>⟨s.ol h z,z⟩⟩
theorem sM{o:List Nat}(s:Sce W L d o){x:Nat}:x∈(st L d o).things↔x∈o.map d:=by unfold st;simp only[y_,decide_eq_true_eq];refine⟨fun z=>z.2,fun z=>⟨?_,z⟩⟩;obtain⟨h,hh,rfl⟩:=q_.mp z;exact s.dl h hh
structure Owns(O:Nat->Option Nat)(d:Nat->Nat)(o:List Nat)(f:Nat->Nat):Prop where
 inj:∀h k x,O h=some x->O k=some x->h=k
 by_:∀h∈o,O (f h)=some (d h)
theorem zm{o:List Nat}{f:Nat->Nat}(s:Sce W L d o)(w:Owns O d o f)(hm:∀x∈o,f x∈o)(hi:∀x∈o,∀y∈o,f x=f y->x=y):Ok W O (st L d o) where
 nl:=lh s.nl
 nt:=lh s.nl
 le:=by
  have h1:((st L d o).line.map d).Nodup:=k7 (lh s.nl) fun x hx y hy e=>s.di x ((jh s).mp hx) y ((jh s).mp hy) e;have:=k8 h1 (m:=(st L d o).things) fun x hx=>by obtain⟨h,hh,rfl⟩:=q_.mp hx;exact(sM s).mpr (q_.mpr ⟨h,(jh s).mp hh,rfl⟩)
  simpa using this
 row:=fun h hh x hx=>s.row h ((jh s).mp hh) x (y_.mp hx).1
 inj:=w.inj
 own:=fun h hh x hx=>by obtain⟨a,ha,e⟩:=kh s.no hm hi h ((jh s).mp hh);have:=w.by_ a ha;rw[e,hx]at this;cases this;exact(sM s).mpr (q_.mpr ⟨a,ha,rfl⟩)
open Classical in
theorem yY{o:List Nat}{f:Nat->Nat}{A:Nat->Prop}(s:Sce W L d o)(w:Owns O d o f)(hm:∀x∈o,f x∈o)(hi:∀x∈o,∀y∈o,f x=f y->x=y)(hA:∀x,A x->x∈o)(hc:∀x,A x->A (f x))(hb:∀x,A x->best (W x) (o.map d)=d x):Cyc W O (st L d o) (L.filter fun x=>decide (A x))/\∀h∈L.filter (fun x=>decide (A x)),d h=bY W (st L d o) h:=by
 have k:=zm s w hm hi;have mA:∀h,h∈L.filter (fun x=>decide (A x))↔A h:=fun h=>by simp only[y_,decide_eq_true_eq];exact⟨fun z=>z.2,fun z=>⟨s.ol h (hA h z),z⟩⟩
 have ht:∀h,A h->bY W (st L d o) h=d h:=fun h ha=>by unfold bY;rw[ss (T':=o.map d) fun x=>sM s];exact hb h ha
 have hx:∀h,A h->cf W O (st L d o) h=f h:=fun h ha=>by unfold cf;rw[ht h ha];exact yV k ((jh s).mpr (hm h (hA h ha))) (w.by_ h (hA h ha))
 refine⟨⟨fun h hh=>(jh s).mpr (hA h ((mA h).mp hh)),fun h hh=>?_,fun h hh=>?_⟩,fun h hh=>(ht h ((mA h).mp hh)).symm⟩
 .rw[hx h ((mA h).mp hh)];exact(mA _).mpr (hc h ((mA h).mp hh))
 .have ha:=(mA h).mp hh;obtain⟨i,j,hij,_,e⟩:=re (f:=f) (l:=o) hm (hA h ha);have e2:it f (j-i) h=h:=by refine(yN (A:=fun x=>x∈o) hm (fun x hx y hy=>hi x hx y hy) i h (it f (j-i) h) (hA h ha) (it_cl hm _ _ (hA h ha)) ?_).symm;rw[<-g8,show j-i+i=j by omega];exact e
  refine⟨j-i-1,?_⟩;rw[show j-i-1+1=j-i by omega];rw[sd (A:=A) (f:=cf W O (st L d o)) (g:=f) (fun x hx'=>by rw[hx x hx'];exact hc x hx') hx _ _ ha];exact e2
open Classical in
theorem Dy:∀{o:List Nat}{f:Nat->Nat},Bl W d o f->∀O:Nat->Option Nat,Sce W L d o->eZ W d o->Owns O d o f->TTC W O d (st L d o):=by
 intro o
 induction o with
|nil=>intro f b O s _ w;refine .nil ?_;unfold st;simp
|cons v o ih=>
  intro t b O s sm w;have hn:=H_.mp s.no;obtain⟨f,bf,e1,k,_,e2,nev,_⟩:=rN b hn.1 sm.1;have s':=s.tail;have tm:=gC b;have ti:=qR b s.no;have fm:=gC bf;have fi:=qR bf hn.2;have w':Owns (fun y=>(o.find? fun h=>decide (f h=y)).map d) d o f:=by
   refine⟨fun h l x e e'=>?_,fun h hh=>?_⟩
   .cases q:o.find? fun a=>decide (f a=h)with
   |none=>rw[q]at e;cases e
   |some a=>cases q':o.find? fun a=>decide (f a=l)with
    |none=>rw[q']at e';cases e'
    |some a'=>rw[q]at e;rw[q']at e';have z1:d a=x:=C_ e;have z2:d a'=x:=C_ e';have:=s'.di a (MA q) a' (MA q') (z1.trans z2.symm);have p1:=M_ q;have p2:=M_ q';simp only[decide_eq_true_eq]at p1 p2;rw[<-p1,<-p2,this]
   .show(o.find? fun a=>decide (f a=f h)).map d=some (d h);cases q:o.find? fun a=>decide (f a=f h)with
   |none=>have:=MH.mp q h hh;simp at this
   |some a=>have p1:=M_ q;simp only[decide_eq_true_eq]at p1;rw[fi a (MA q) h hh p1];rfl
  have t':=ih bf _ s' sm.2 w';have psb:∀x,Ps W d v o f x->best (W x) (o.map d)=d x:=fun x hx=>by have h0:best (W x) ((v::o).map d)=d x:=hx.2 0;have hin:d x∈o.map d:=q_.mpr ⟨x,hx.1,rfl⟩;rw[<-h0];refine Ar (fun y hy=>c_ _ hy) (by rw[h0];exact hin) ?_;rw[h0];exact s.row x (c_ _ hx.1) _ (s'.dl x hx.1)
  obtain⟨c',g'⟩:=yY (A:=Ps W d v o f) s' w' fm fi (fun x hx=>hx.1) (fun x hx=>⟨fm x hx.1,fun n=>hx.2 (n+1)⟩) psb;obtain⟨c,g⟩:=yY (A:=Sv W d (v::o) t) s w tm ti (fun x hx=>hx.1) (fun x hx=>⟨tm x hx.1,fun n=>hx.2 (n+1)⟩) (fun x hx=>hx.2 0);have p:=(rJ t' (zm s' w' fm fi) c').1;refine .step _ c g ?_;have mC:∀h,h∈L.filter (fun x=>decide (Sv W d (v::o) t x))↔h=v\/Ps W d v o f h:=fun h=>by
   simp only[y_,decide_eq_true_eq,k h];refine⟨fun z=>z.2,fun z=>⟨?_,z⟩⟩;rcases z with rfl|z
   .exact s.ol _ e_
   .exact s'.ol h z.1
  have mC':∀h,h∈L.filter (fun x=>decide (Ps W d v o f x))↔Ps W d v o f h:=fun h=>by simp only[y_,decide_eq_true_eq];exact⟨fun z=>z.2,fun z=>⟨s'.ol h z.1,z⟩⟩
  have eq:minus W (st L d (v::o)) (L.filter fun x=>decide (Sv W d (v::o) t x))=minus W (st L d o) (L.filter fun x=>decide (Ps W d v o f x)):=by
   have h1:(minus W (st L d (v::o)) (L.filter fun x=>decide (Sv W d (v::o) t x))).line=(minus W (st L d o) (L.filter fun x=>decide (Ps W d v o f x))).line:=by
    show((L.filter _).filter _)=((L.filter _).filter _)
    rw[Nu,Nu];refine k6 fun x _=>?_;rw[Ms];simp only[I_,decide_eq_true_eq];rw[mC,mC'];constructor
    .rintro⟨a,b⟩
     exact⟨fun z=>a (.inr z),(p_.mp b).resolve_left fun z=>a (.inl z)⟩
    .rintro⟨a,b⟩
     exact⟨fun z=>z.elim (fun e=>nev x b e) a,c_ _ b⟩
   have h2:(minus W (st L d (v::o)) (L.filter fun x=>decide (Sv W d (v::o) t x))).things=(minus W (st L d o) (L.filter fun x=>decide (Ps W d v o f x))).things:=by
    show((L.filter _).filter _)=((L.filter _).filter _)
    rw[Nu,Nu];refine k6 fun x _=>?_;rw[Ms];simp only[I_,decide_eq_true_eq];have i1:x∈(L.filter fun x=>decide (Sv W d (v::o) t x)).map (bY W (st L d (v::o)))↔∃h,(h=v\/Ps W d v o f h)/\d h=x:=by
     rw[q_];constructor
     .rintro⟨h,hh,e⟩;exact⟨h,(mC h).mp hh,(g h hh).trans e⟩
     .rintro⟨h,hh,e⟩;exact⟨h,(mC h).mpr hh,(g h ((mC h).mpr hh)).symm.trans e⟩
    have i2:x∈(L.filter fun x=>decide (Ps W d v o f x)).map (bY W (st L d o))↔∃h,Ps W d v o f h/\d h=x:=by
     rw[q_];constructor
     .rintro⟨h,hh,e⟩;exact⟨h,(mC' h).mp hh,(g' h hh).trans e⟩
     .rintro⟨h,hh,e⟩;exact⟨h,(mC' h).mpr hh,(g' h ((mC' h).mpr hh)).symm.trans e⟩
    rw[i1,i2];constructor
    .rintro⟨a,b⟩
     obtain⟨h,hh,e⟩:=q_.mp b;refine⟨fun⟨l,hl,el⟩=>a ⟨l,.inr hl,el⟩,q_.mpr ⟨h,(p_.mp hh).resolve_left fun z=>a ⟨h,.inl z,e⟩,e⟩⟩
    .rintro⟨a,b⟩
     obtain⟨h,hh,e⟩:=q_.mp b;refine⟨fun⟨l,hl,el⟩=>?_,q_.mpr ⟨h,c_ _ hh,e⟩⟩;rcases hl with rfl|hl
     .exact nev h hh (s.di h (c_ _ hh) _ e_ (e.trans el.symm))
     .exact a ⟨l,hl,el⟩
   cases q1:minus W (st L d (v::o)) (L.filter fun x=>decide (Sv W d (v::o) t x));cases q2:minus W (st L d o) (L.filter fun x=>decide (Ps W d v o f x));rw[q1,q2]at h1 h2;simp only at h1 h2;rw[h1,h2]
  rw[eq];refine Ln p fun y hy=>?_;obtain⟨hy1,hy2⟩:=y_.mp hy;simp only[decide_eq_true_eq]at hy2;rw[mC']at hy2;have hyo:=(jh s').mp hy1;obtain⟨a,ha,ea⟩:=kh s.no tm ti y (c_ _ hyo);have hav:a≠v:=by
   rintro rfl
   have sv:Sv W d (a::o) t a:=(k a).mpr (.inl rfl);have:Sv W d (a::o) t y:=by rw[<-ea];exact⟨tm a sv.1,fun n=>sv.2 (n+1)⟩
   rcases(k y).mp this with z|z
   .exact nev y hyo z
   .exact hy2 z
  have hao:=(p_.mp ha).resolve_left hav;have fa:f a=y:=by rw[e1 a hao,if_neg (by rw[ea];exact nev y hyo),ea]
  have h1:=w.by_ a ha;have h2:=w'.by_ a hao;rw[ea]at h1;rw[fa]at h2;exact h2.trans h1.symm
end
end Rg
end
section
namespace Rg
theorem tN{α:Type}[DecidableEq α]:∀{l m:List α},l.Nodup->(∀x∈l,x∈m)->m.length<=l.length->l.Perm m
|[],m,_,_,hl=>by have:m=[]:=O0 (by simpa using hl);rw[this]
|a::l,m,hn,hs,hl=>by
  have hn':=H_.mp hn;have ha:=hs a e_;refine List.Perm.trans ?_ (QK ha).symm;refine List.Perm.cons a (tN hn'.2 (fun x hx=>?_) ?_)
  .have:x≠a:=by rintro rfl;exact hn'.1 hx
   exact(Oh this).mpr (hs x (c_ _ hx))
  .rw[M6 ha];simp at hl;omega
theorem BN{α β:Type}{f:α->β}:∀{l:List α},l.Nodup->(∀x∈l,∀y∈l,f x=f y->x=y)->(l.map f).Nodup
|[],_,_=>by simp
|a::l,hn,hi=>by have hn':=H_.mp hn;rw[G_];refine H_.mpr ⟨fun z=>?_,BN hn'.2 fun x hx y hy=>hi x (c_ _ hx) y (c_ _ hy)⟩;obtain⟨b,hb,e⟩:=q_.mp z;have:=hi b (c_ _ hb) a e_ e;rw[this]at hb;exact hn'.1 hb
def cl:Nat->List (List Nat)
|0=>[[]]
|n+1=>(cl n).flatMap fun r=>(a_ (n+1)).map fun a=>r.take a++[n]++r.drop a
def nJ:Nat->Nat
|0=>1
|i+1=>nJ i*(i+1)
theorem CZ{n:Nat}(h:n<=5):(cl n).Nodup/\(∀r∈cl n,r.Perm (a_ n))/\(cl n).length=nJ n:=by match n,h with
|0,_=>exact⟨by decide+kernel,by decide+kernel,by decide+kernel⟩
|1,_=>exact⟨by decide+kernel,by decide+kernel,by decide+kernel⟩
|2,_=>exact⟨by decide+kernel,by decide+kernel,by decide+kernel⟩
|3,_=>exact⟨by decide+kernel,by decide+kernel,by decide+kernel⟩
|4,_=>exact⟨by decide+kernel,by decide+kernel,by decide+kernel⟩
|5,_=>exact⟨by decide+kernel,by decide+kernel,by decide+kernel⟩
theorem xF{n:Nat}(h:n<=5){rs:List (List Nat)}(h1:∀r:List Nat,r∈rs↔r.Perm (a_ n))(h2:rs.length=nJ n):rs.Nodup:=by obtain⟨c1,c2,c3⟩:=CZ h;exact(tN c1 (fun r hr=>(h1 r).mpr (c2 r hr)) (by omega)).nodup_iff.mp c1
theorem BB{n:Nat}{rs:List (List Nat)}(hn:rs.Nodup)(h1:∀r:List Nat,r∈rs↔r.Perm (a_ n)){f:List Nat->List Nat}(hm:∀r,r.Perm (a_ n)->(f r).Perm (a_ n))(hi:∀r r',r.Perm (a_ n)->r'.Perm (a_ n)->f r=f r'->r=r'):(rs.map f).Perm rs:=by refine tN (BN hn fun x hx y hy=>hi x y ((h1 x).mp hx) ((h1 y).mp hy)) (fun x hx=>?_) (by simp);obtain⟨r,hr,rfl⟩:=q_.mp hx;exact(h1 _).mpr (hm r ((h1 r).mp hr))
section
variable{W:Nat->List Nat}{n:Nat}
theorem AR{d:Nat->Nat}:∀{o T:List Nat},iN W d o T->T.Perm (o.map d)->eZ W d o
|[],_,_,_=>trivial
|v::o,T,s,p=>by
  refine⟨?_,AR s.2 ?_⟩
  .show best (W v) ((v::o).map d)=d v;rw[ss (T':=T) fun x=>p.symm.mem_iff];exact s.1
  .have:=p.erase (d v);rw[G_,List.erase_cons_head]at this;exact this
def dO(W:Nat->List Nat)(n:Nat)(o:List Nat):Nat->Nat:=fun h=>if h<n then aL W o (a_ n) h else 0
theorem DB{o:List Nat}(hp:o.Perm (a_ n)):iN W (dO W n o) o (a_ n):=sP (fun x hx=>by unfold dO;rw[if_pos (k_.mp (hp.mem_iff.mp hx))]) (qP o (a_ n) (hp.nodup_iff.mpr J_))
theorem qH{w:List Nat}(hW:∀h,h<n->∀x,x<n->x∈W h)(hw:w.Perm (a_ n)):Ok W (fun k=>w[k]?) ⟨a_ n,a_ n⟩ where
 nl:=J_
 nt:=J_
 le:=w_ _
 row:=fun h hh x hx=>hW h (k_.mp hh) x (k_.mp hx)
 inj:=fun h k x e1 e2=>by have hl:=(h_.mp e1).1;exact(OQ hl (hw.nodup_iff.mpr J_)).mp (e1.trans e2.symm)
 own:=fun h _ x e=>hw.mem_iff.mp (QC e)
theorem vY(hW:∀h,h<n->∀x,x<n->x∈W h){o:List Nat}(hp:o.Perm (a_ n)):∃(w:List Nat)(f:Nat->Nat),w.Perm (a_ n)/\TTC W (fun k=>w[k]?) (dO W n o) ⟨a_ n,a_ n⟩/\Bl W (dO W n o) o f/\eZ W (dO W n o) o/\∀h,h<n->w[f h]? = some (dO W n o h):=by
 have no:o.Nodup:=hp.nodup_iff.mpr J_;have hs:=DB (W:=W) hp;have mo:∀x,x∈o↔x<n:=fun x=>by rw[hp.mem_iff,k_]
 have lo:o.length=n:=by rw[hp.length_eq];simp
 obtain⟨m1,m2⟩:=zV hs J_ (by simp[lo]) (fun h hh x hx=>hW h ((mo h).mp hh) x (k_.mp hx));generalize dO W n o=d at hs m1 m2 ⊢;have di:∀h∈o,∀l∈o,d h=d l->h=l:=fun h hh l hl e=>m2 h hh l hl no e;have pm:(o.map d).Perm (a_ n):=mS (k7 no di) (fun x hx=>by obtain⟨h,hh,rfl⟩:=q_.mp hx;exact m1 h hh) (by simp[lo]);have sm:=AR hs pm.symm;obtain⟨f,b⟩:=wP (W:=W) (d:=d) o no;have fm:=gC b;have fi:=qR b no;have on:=kh no fm fi;have pre:∀y,y<n->∃a,a<n/\f a=y/\((a_ n).find? fun a=>decide (f a=y))=some a:=by intro y hy;obtain⟨a,ha,e⟩:=on y ((mo y).mpr hy);cases q:(a_ n).find? fun a=>decide (f a=y)with
 |none=>have:=MH.mp q a (k_.mpr ((mo a).mp ha));simp[e]at this
 |some a'=>have p1:=M_ q;simp only[decide_eq_true_eq]at p1;exact⟨a',k_.mp (MA q),p1,rfl⟩
 have hw:((a_ n).map fun y=>d (((a_ n).find? fun a=>decide (f a=y)).getD 0)).Nodup:=k7 J_ fun x hx y hy e=>by obtain⟨a,a1,a2,a3⟩:=pre x (k_.mp hx);obtain⟨c,c1,c2,c3⟩:=pre y (k_.mp hy);rw[a3,c3]at e;have:=di a ((mo a).mpr a1) c ((mo c).mpr c1) e;rw[<-a2,<-c2,this]
 have at_:∀h,h<n->((a_ n).map fun y=>d (((a_ n).find? fun a=>decide (f a=y)).getD 0))[f h]? = some (d h):=by intro h hh;have hf:f h<n:=(mo _).mp (fm h ((mo h).mpr hh));obtain⟨a,a1,a2,a3⟩:=pre (f h) hf;rw[x_,MZ hf];show some (d (((a_ n).find? fun a=>decide (f a=f h)).getD 0))=_;rw[a3];have:=fi a ((mo a).mpr a1) h ((mo h).mpr hh) a2;rw[this];rfl
 refine⟨(a_ n).map fun y=>d (((a_ n).find? fun a=>decide (f a=y)).getD 0),f,?_,?_,b,sm,at_⟩
 .refine mS hw (fun x hx=>?_) (by simp);obtain⟨y,hy,rfl⟩:=q_.mp hx;obtain⟨a,a1,a2,a3⟩:=pre y (k_.mp hy);rw[a3];exact m1 a ((mo a).mpr a1)
 .have t:=Dy (L:=a_ n) b (fun k=>((a_ n).map fun y=>d (((a_ n).find? fun a=>decide (f a=y)).getD 0))[k]?) ⟨J_,no,fun h hh=>k_.mpr ((mo h).mp hh),m1,di,fun h hh x hx=>hW h ((mo h).mp hh) x (k_.mp hx)⟩ sm
   ⟨fun h k x e1 e2=>(OQ (h_.mp e1).1 hw).mp (e1.trans e2.symm),fun h hh=>at_ h ((mo h).mp hh)⟩
  have e:st (a_ n) d o=⟨a_ n,a_ n⟩:=by
   unfold st;congr 1
   .exact Ov.mpr fun x hx=>by simpa using hp.mem_iff.mpr hx
   .exact Ov.mpr fun x hx=>decide_eq_true (pm.mem_iff.mpr hx)
  rw[e]at t;exact t
theorem EC(hW:∀h,h<n->∀x,x<n->x∈W h):∃F:List Nat->List Nat,(∀o,o.Perm (a_ n)->(F o).Perm (a_ n)/\TTC W (fun k=>(F o)[k]?) (dO W n o) ⟨a_ n,a_ n⟩)/\∀o o',o.Perm (a_ n)->o'.Perm (a_ n)->F o=F o'->o=o':=by
 have h:∀o:List Nat,∃w:List Nat,o.Perm (a_ n)->∃f:Nat->Nat,w.Perm (a_ n)/\TTC W (fun k=>w[k]?) (dO W n o) ⟨a_ n,a_ n⟩/\Bl W (dO W n o) o f/\eZ W (dO W n o) o/\∀h,h<n->w[f h]? = some (dO W n o h):=fun o=>by
  by_cases hp:o.Perm (a_ n)
  .obtain⟨w,f,z⟩:=vY hW hp;exact⟨w,fun _=>⟨f,z⟩⟩
  .exact⟨[],fun z=>absurd z hp⟩
 obtain⟨F,hF⟩:=P6 h;refine⟨F,fun o hp=>?_,fun o o' hp hp' e=>?_⟩
 .obtain⟨f,h1,h2,_⟩:=hF o hp;exact⟨h1,h2⟩
 .obtain⟨f,h1,h2,h3,h4,h5⟩:=hF o hp;obtain⟨f',h1',h2',h3',h4',h5'⟩:=hF o' hp';rw[<-e]at h1' h2' h5';have ed:dO W n o=dO W n o':=by
   funext h;by_cases hh:h<n
   .exact BS h2 (qH hW h1) h2' h (k_.mpr hh)
   .unfold dO;rw[if_neg hh,if_neg hh]
  rw[<-ed]at h3' h4' h5';have nw:(F o).Nodup:=h1.nodup_iff.mpr J_;refine zN o o' f f' h3 h3' (hp.nodup_iff.mpr J_) (hp'.nodup_iff.mpr J_) h4 h4' (fun x=>by rw[hp.mem_iff,hp'.mem_iff]) fun x hx=>?_;have hx':=k_.mp (hp.mem_iff.mp hx);have e1:=h5 x hx';have e2:=h5' x hx';exact(OQ (h_.mp e1).1 nw).mp (e1.trans e2.symm)
theorem Fu(hW:∀h,h<n->∀x,x<n->x∈W h){rs:List (List Nat)}(hn:rs.Nodup)(h1:∀r:List Nat,r∈rs↔r.Perm (a_ n))(R:List Nat->Nat->Nat)(hR:∀w,w.Perm (a_ n)->TTC W (fun k=>w[k]?) (R w) ⟨a_ n,a_ n⟩){h:Nat}(hh:h<n)(x:Nat):rs.countP (fun w=>decide (R w h=x))=rs.countP fun o=>decide (aL W o (a_ n) h=x):=by obtain⟨F,f1,f2⟩:=EC hW;have p:=BB hn h1 (fun r hr=>(f1 r hr).1) f2;rw[<-p.countP_eq,N6];refine Od fun o ho=>?_;have hp:=(h1 o).mp ho;obtain⟨q1,q2⟩:=f1 o hp;have:=BS (hR _ q1) (qH hW q1) q2 h (k_.mpr hh);simp only[MR,decide_eq_true_eq];rw[this];unfold dO;rw[if_pos hh]
theorem AQ{W':Nat->List Nat}{f:Nat->Nat}:∀(o T:List Nat)(h:Nat),(∀a∈o,W' a=W (f a))->(∀a∈o,f h=f a->h=a)->h∈o->aL W' o T h=aL W (o.map f) T (f h)
|[],_,_,_,_,hh=>by cases hh
|v::o,T,h,e,hi,hh=>by
  show(if h=v then best (W' v) T else aL W' o (T.erase (best (W' v) T)) h)=(if f h=f v then best (W (f v)) T else aL W (o.map f) (T.erase (best (W (f v)) T)) (f h))
  rw[e v e_];by_cases z:h=v
  .rw[if_pos z,if_pos (by rw[z])]
  .rw[if_neg z,if_neg (fun q=>z (hi v e_ q))];exact AQ o _ h (fun a ha=>e a (c_ _ ha)) (fun a ha=>hi a (c_ _ ha)) ((p_.mp hh).resolve_left z)
end
end Rg
end
section
namespace Rg
section
variable{W:Nat->List Nat}{n:Nat}
theorem La{W':Nat->List Nat}{f:Nat->Nat}(T:List Nat)(hf:∀h,h<n->f h<n)(hi:∀h,h<n->∀l,l<n->f h=f l->h=l)(e:∀h,h<n->W' h=W (f h)){rs:List (List Nat)}(hn:rs.Nodup)(h1:∀r:List Nat,r∈rs↔r.Perm (a_ n)){h:Nat}(hh:h<n)(x:Nat):rs.countP (fun o=>decide (aL W' o T h=x))=rs.countP fun o=>decide (aL W o T (f h)=x):=by
 have mo:∀{o:List Nat},o.Perm (a_ n)->∀y,y∈o↔y<n:=fun hp y=>by rw[hp.mem_iff,k_]
 have p:(rs.map fun o=>o.map f).Perm rs:=by
  refine BB hn h1 (fun r hr=>?_) fun r r' hr hr' q=>?_
  .refine mS (k7 (hr.nodup_iff.mpr J_) fun a ha b hb=>hi a ((mo hr a).mp ha) b ((mo hr b).mp hb)) (fun y hy=>?_) (by rw[l_,hr.length_eq];exact w_ _);obtain⟨a,ha,rfl⟩:=q_.mp hy;exact k_.mpr (hf a ((mo hr a).mp ha))
  .have:∀(l l':List Nat),(∀a∈l,a<n)->(∀a∈l',a<n)->l.map f=l'.map f->l=l':=by
    intro l
    induction l with
   |nil=>intro l' _ _ q;cases l' with
    |nil=>rfl
    |cons _ _=>cases q
   |cons a l ih=>intro l' h1 h2 q;cases l' with
    |nil=>cases q
    |cons b l'=>
      rw[G_,G_]at q;injection q with q1 q2
      rw[hi a (h1 a e_) b (h2 b e_) q1,ih l' (fun z hz=>h1 z (c_ _ hz)) (fun z hz=>h2 z (c_ _ hz)) q2]
   exact this r r' (fun a ha=>(mo hr a).mp ha) (fun a ha=>(mo hr' a).mp ha) q
 have key:rs.countP (fun o=>decide (aL W' o T h=x))=rs.countP ((fun o=>decide (aL W o T (f h)=x))∘fun o=>o.map f):=by refine Od fun o ho=>?_;have hp:=(h1 o).mp ho;simp only[MR,decide_eq_true_eq];rw[AQ o T h (fun a ha=>e a ((mo hp a).mp ha)) (fun a ha=>hi h hh a ((mo hp a).mp ha)) ((mo hp h).mpr hh)]
 rw[key,<-N6,p.countP_eq]
def j0(a b h:Nat):Nat:=if h=a then b else if h=b then a else h
theorem zY(a b h:Nat):j0 a b (j0 a b h)=h:=by
 unfold j0;by_cases h1:h=a
 .subst h1;rw[if_pos rfl];by_cases h2:b=h
  .rw[if_pos h2,h2]
  .rw[if_neg h2,if_pos rfl]
 .rw[if_neg h1];by_cases h2:h=b
  .rw[if_pos h2,if_pos rfl,h2]
  .rw[if_neg h2,if_neg h1,if_neg h2]
theorem y0(T:List Nat){a b:Nat}(ha:a<n)(hb:b<n)(e:W a=W b){rs:List (List Nat)}(hn:rs.Nodup)(h1:∀r:List Nat,r∈rs↔r.Perm (a_ n))(x:Nat):rs.countP (fun o=>decide (aL W o T a=x))=rs.countP fun o=>decide (aL W o T b=x):=by
 have:=La (W:=W) (W':=W) (f:=j0 a b) T (fun h hh=>by unfold j0;split;exact hb;split;exact ha;exact hh) (fun h _ l _ z=>by rw[<-zY a b h,z,zY]) (fun h _=>by
  unfold j0;by_cases z:h=a
  .rw[if_pos z,z,e]
  .rw[if_neg z];by_cases z':h=b
   .rw[if_pos z',z',e]
   .rw[if_neg z']) hn h1 ha x
 rw[this];unfold j0;rw[if_pos rfl]
theorem A5:∀{row T:List Nat},row.Nodup->T.Nodup->(∃x∈row,x∈T)->(row.filter fun x=>decide (x∈T))=best row T::row.filter fun x=>decide (x∈T.erase (best row T))
|[],_,_,_,⟨_,h,_⟩=>nomatch h
|r::row,T,hr,hT,hx=>by
  have hr':=H_.mp hr;by_cases h:r∈T
  .have eb:best (r::row) T=r:=by unfold best;rw[K_,decide_eq_true h];rfl
   have hne:r∉T.erase r:=fun z=>(hT.mem_erase_iff.mp z).1 rfl;rw[eb,ME,if_pos (decide_eq_true h),ME,if_neg (by rw[decide_eq_true_iff];exact hne)];congr 1;refine List.filter_congr fun x hx'=>?_;rw[decide_eq_decide];exact(Oh (by rintro rfl;exact hr'.1 hx')).symm
  .have eb:best (r::row) T=best row T:=by unfold best;rw[K_,decide_eq_false h]
   rw[eb,ME,if_neg (by simpa using h),ME,if_neg (by rw[decide_eq_true_iff];exact fun z=>h (Nw z))];refine A5 hr'.2 hT ?_;obtain⟨x,h1,h2⟩:=hx;rcases p_.mp h1 with rfl|h1
   .exact absurd h2 h
   .exact⟨x,h1,h2⟩
theorem Be{row:List Nat}(hr:row.Nodup):∀{o T:List Nat},o.Nodup->T.Nodup->(∀x∈T,x∈row)->(∀h∈o,W h=row)->o.length<=T.length->o.map (aL W o T)=(row.filter fun x=>decide (x∈T)).take o.length
|[],_,_,_,_,_,_=>rfl
|h::o,T,ho,hT,hm,hW,hl=>by
  have ho':=H_.mp ho;have ht:∃x∈row,x∈T:=by cases T with
  |nil=>simp at hl
  |cons t T=>exact⟨t,hm t e_,e_⟩
  have hb:best row T∈T:=oQ ht;rw[A5 hr hT ht,MM,List.take_succ_cons,G_];have e0:aL W (h::o) T h=best row T:=by show(if h=h then best (W h) T else _)=_;rw[if_pos rfl,hW h e_]
  rw[e0];congr 1;rw[<-Be hr ho'.2 (hT.erase _) (fun x hx=>hm x (Nw hx)) (fun x hx=>hW x (c_ _ hx)) (by rw[M6 hb];simp at hl;omega)];refine MB fun x hx=>?_;show(if x=h then best (W h) T else aL W o (T.erase (best (W h) T)) x)=_;rw[if_neg (by rintro rfl;exact ho'.1 hx),hW h e_]
theorem sy{row:List Nat}{m:Nat}(hr:row.Perm (a_ m))(hnm:n<=m)(hW:∀h,h<n->W h=row){o:List Nat}(ho:o.Perm (a_ n)):o.map (aL W o (a_ m))=row.take n:=by
 have mo:∀y,y∈o↔y<n:=fun y=>by rw[ho.mem_iff,k_]
 have lo:o.length=n:=by rw[ho.length_eq,Oc]
 rw[Be (hr.nodup_iff.mpr J_) (ho.nodup_iff.mpr J_) J_ (fun x hx=>hr.mem_iff.mpr hx) (fun h hh=>hW h ((mo h).mp hh)) (by rw[lo,Oc];exact hnm),lo];congr 1;exact Ov.mpr fun x hx=>decide_eq_true (hr.mem_iff.mp hx)
theorem D4{row:List Nat}{m:Nat}(hr:row.Perm (a_ m))(hnm:n<=m)(hW:∀h,h<n->W h=row){rs:List (List Nat)}(h1:∀r∈rs,r.Perm (a_ n)){h x:Nat}(hh:h<n)(hx:x∉row.take n):rs.countP (fun o=>decide (aL W o (a_ m) h=x))=0:=by
 refine List.countP_eq_zero.mpr fun o ho=>?_;rw[decide_eq_true_iff]
 rintro rfl
 refine hx ?_;rw[<-sy hr hnm hW (h1 o ho)];exact q_.mpr ⟨h,(h1 o ho).mem_iff.mpr (k_.mpr hh),rfl⟩
theorem yM{f:Nat->Nat}:∀{l:List Nat},(l.map f).Nodup->∀a∈l,∀b∈l,f a=f b->a=b
|[],_,_,ha,_,_,_=>nomatch ha
|c::l,h,a,ha,b,hb,e=>by
  rw[G_]at h;have h':=H_.mp h;rcases p_.mp ha with z|z
  .rcases p_.mp hb with y|y
   .rw[z,y]
   .rw[z]at e;exact absurd (q_.mpr ⟨b,y,e.symm⟩) h'.1
  .rcases p_.mp hb with y|y
   .rw[y]at e;exact absurd (q_.mpr ⟨a,z,e⟩) h'.1
   .exact yM h'.2 a z b y e
theorem BA(c:Nat):∀n,((a_ n).map fun _=>c).sum=n*c
|0=>by simp
|n+1=>by rw[Oz,MN,List.sum_append,BA c n];simp[Tk]
theorem D3{row:List Nat}{m:Nat}(hr:row.Perm (a_ m))(hnm:n<=m)(hW:∀h,h<n->W h=row){rs:List (List Nat)}(hn:rs.Nodup)(h1:∀r:List Nat,r∈rs↔r.Perm (a_ n)){h x:Nat}(hh:h<n)(hx:x∈row.take n):n*rs.countP (fun o=>decide (aL W o (a_ m) h=x))=rs.length:=by
 have nr:(row.take n).Nodup:=(Rc n row).nodup (hr.nodup_iff.mpr J_);have one:∀o∈rs,∀a,a<n->∀b,b<n->aL W o (a_ m) a=aL W o (a_ m) b->a=b:=fun o ho a ha b hb e=>by have hp:=(h1 o).mp ho;have:=sy hr hnm hW hp;rw[<-this]at nr;exact yM nr a (hp.mem_iff.mpr (k_.mpr ha)) b (hp.mem_iff.mpr (k_.mpr hb)) e
 have key:∀a∈a_ n,rs.countP (fun o=>decide (aL W o (a_ m) h=x))=rs.countP fun o=>decide ((((a_ n).find? fun a=>decide (aL W o (a_ m) a=x)).getD n)=a):=by
  intro a ha;rw[y0 (a_ m) hh (k_.mp ha) (by rw[hW h hh,hW a (k_.mp ha)]) hn h1 x];refine Od fun o ho=>?_;simp only[decide_eq_true_eq];constructor
  .intro e;cases q:(a_ n).find? fun a=>decide (aL W o (a_ m) a=x)with
  |none=>have:=MH.mp q a ha;simp[e]at this
  |some b=>have p1:=M_ q;simp only[decide_eq_true_eq]at p1;exact one o ho b (k_.mp (MA q)) a (k_.mp ha) (p1.trans e.symm)
  .intro e;cases q:(a_ n).find? fun a=>decide (aL W o (a_ m) a=x)with
  |none=>rw[q]at e;have:=k_.mp ha;simp at e;omega
  |some b=>have p1:=M_ q;simp only[decide_eq_true_eq]at p1;rw[q]at e;rw[<-e];exact p1
 rw[<-BA,MB key,zR _ rs (a_ n) J_];refine List.countP_eq_length.mpr fun o ho=>?_;simp only[decide_eq_true_eq];have hp:=(h1 o).mp ho;have e:=sy hr hnm hW hp;rw[<-e]at hx;obtain⟨a,ha,ea⟩:=q_.mp hx;have ha:=hp.mem_iff.mp ha;cases q:(a_ n).find? fun a=>decide (aL W o (a_ m) a=x)with
|none=>have:=MH.mp q a ha;simp[ea]at this
|some b=>exact MA q
end
end Rg
end
namespace Law
open PySem PySem.Spec PyProof.Rows L2 DL
abbrev gv(i:Nat):DL.FE:=fun r=>DL.dI r i
abbrev ci(i:Int):DL.FE:=fun _=>.ok (.int i)
abbrev q0:List DL.Md:=[.bw,.bw]
abbrev bq:List DL.Md:=[.bw,.bw,.sh,.sh]
abbrev cw:List DL.Md:=[.sh,.sh,.sh]
abbrev cu:List DL.Md:=[.bw,.sh]
abbrev cL:List DL.Md:=[.bw,.bw,.ow,.sh,.sh]
abbrev cK:List DL.Md:=[.bw,.sh,.bw]
abbrev dC:List DL.Md:=[.bw,.bw,.sh,.bw,.sh,.sh,.sh,.sh]
abbrev dW:List DL.Md:=[.bw,.bw,.bw,.sh]
abbrev dU:List DL.Md:=[.sh,.sh,.sh,.ow,.sh]
abbrev eU:List DL.Md:=[.bw,.bw,.bw]
abbrev eS:List DL.Md:=[.sh,.bw,.bw,.ow,.sh]
abbrev eR:List DL.Md:=[.bw,.bw,.bw,.sh,.sh,.ow,.sh,.sh,.sh]
abbrev fT:List DL.Md:=[.bw,.bw,.bw,.bw]
abbrev fR:List DL.Md:=[.bw,.sh,.sh,.sh,.sh,.sh]
abbrev fQ:List DL.Md:=[.sh,.sh,.sh,.sh]
abbrev gP:List DL.Md:=[.bw,.bw,.bw,.bw,.ow,.ow,.sh,.sh]
abbrev gO:List DL.Md:=[.bw,.bw,.bw,.sh,.sh,.sh,.sh,.sh,.sh]
abbrev gN:List DL.Md:=[.bw,.bw,.sh,.ow,.sh]
abbrev gM:List DL.Md:=[.bw,.bw,.ow,.ow,.sh]
abbrev gL:List DL.Md:=[.sh,.bw,.ow,.sh]
abbrev iH:List DL.Md:=[.bw,.bw,.sh,.sh,.sh]
abbrev ka:List DL.Md:=[.bw,.bw,.sh,.bw,.sh,.sh,.ow,.sh]
abbrev j8:List DL.Md:=[.bw,.ow,.sh,.sh,.sh]
abbrev j7:List DL.Md:=[.bw,.sh,.sh,.sh,.sh]
abbrev j6:List DL.Md:=[.bw,.sh,.sh,.ow,.sh,.sh]
abbrev j5:List DL.Md:=[.sh,.sh,.sh,.sh,.sh]
abbrev nz:List DL.Md:=[.bw,.bw,.bw,.bw,.ow,.ow,.sh,.ow]
abbrev ny:List DL.Md:=[.bw,.bw,.bw,.ow,.sh,.ow,.sh,.sh,.sh]
abbrev nv:List DL.Md:=[.bw,.bw,.bw,.ow,.ow,.ow,.sh,.sh,.sh]
theorem nY{α:Type}(us:List α)(h:us.length=1):∃a0,us=[a0]:=by match us,h with
|[_],_=>exact⟨_,rfl⟩
theorem lG{α:Type}(us:List α)(h:us.length=2):∃a0 a1,us=[a0,a1]:=by match us,h with
|[_,_],_=>exact⟨_,_,rfl⟩
theorem xK{α:Type}(us:List α)(h:us.length=3):∃a0 a1 a2,us=[a0,a1,a2]:=by match us,h with
|[_,_,_],_=>exact⟨_,_,_,rfl⟩
def top(i:Nat):Stmt:=Pq.main.body.getD i (.Pass ⟨0,0,0,0⟩)
structure Txt(K:W.Frag)(mg:Str->Option b_):Prop where
 b_range:mg "range" = none
 b_all:mg "all" = none
 b_tuple:mg "tuple" = none
 b_len:mg "len" = none
 b_abs:mg "abs" = none
 b_isinstance:mg "isinstance" = none
 b_bool:mg "bool" = none
 b_int:mg "int" = none
 b_enumerate:mg "enumerate" = none
 b_list:mg "list" = none
 b_sorted:mg "sorted" = none
 b_ValueError:mg "ValueError" = none
 k_MOST_HANDS_IN_LOTS:∃t,mg "MOST_HANDS_IN_LOTS" = some (.int 5 t)
def jk:Str->Bool:=fun nm=>(["TradeError","TooMany","NotSquare","NoFraction","NoOrder"]:List Str).contains nm
def iw:Str->Option Bool:=fun nm=>if (["TradeError","TooMany","NotSquare","NoFraction","NoOrder"]:List Str).contains nm=true then some true else if ([]:List Str).contains nm=true then some false else none
def iu:Str->Option Bool:=fun nm=>if (["NotSquare"]:List Str).contains nm=true then some true else if (["TradeError","TooMany","NoFraction","NoOrder"]:List Str).contains nm=true then some false else none
def iz:Str->Option Bool:=fun nm=>if (["TooMany"]:List Str).contains nm=true then some true else if (["TradeError","NotSquare","NoFraction","NoOrder"]:List Str).contains nm=true then some false else none
abbrev iA:Stmt:=top 44
abbrev jp:List Str:=["_law_wanted","_law_table","_law_n","_law_m","_law_hand","_law_other","_law_due","_law_thing"]
abbrev uF:List Str:=["_law_wanted","_law_table","_law_n","_law_m"]
theorem jq:FnScope jp uF (ar iA):=bL
abbrev CA:FS:=(seqF (cG dC (b8 (aP (f2 (f2 (gv 0) (gv 4) bb) (f2 (gv 0) (gv 5) bb) eqD)) (aP (f2 (f2 (gv 1) (gv 4) bb) (f2 (gv 1) (gv 5) bb) neD))) (seqF (retF dC (fun _=>Res.ok (D.bl false))) aw) aw) aw)
abbrev CB:FS:=(seqF (db dC (cj b6 (af (gv 2) aa)) (aS 5) CA) aw)
abbrev CC:FS:=(seqF (putF ka 6 (gv 7) (iI (af (ci 1) (af (gv 2) aa)))) aw)
def uB:FS:=(seqF (db dC (cj b6 (af (gv 2) aa)) (aS 4) CB) (seqF (cG dC (b7 (fC (af (cU 1 [0] (aV b9 (gv 0)) (aS 0) (fun _=>Res.ok true) (f2 (gv 0) (f2 (gv 1) (ci 0) bb) eqD)) aa) allD)) (seqF (ap dC 6 (cU 1 [] (cj b6 (af (gv 3) aa)) (aS 0) (fun _=>Res.ok true) (iI (af (ci 0) (af (ci 1) aa))))) (seqF (db ka (aV b9 (gT (f2 (gv 0) (ci 0) bb) (fun _=>Res.ok none) (kJ (gv 2)))) (aS 7) CC) (seqF (retF ka (f2 (gv 1) (fC (af (cU 1 [6] (cj b6 (af (gv 2) aa)) (aS 0) (fun _=>Res.ok true) (fC (af (gv 1) aa) tupD)) aa) tupD) eqD)) aw))) aw) (seqF (retF dC (fun _=>Res.ok (D.bl true))) aw)))
def mU:List D->Res D:=fun ds=>aq false (uB (aK jp.length ds))
variable{P:D_}{w:Mu}{K:W.Frag}{mg:Str->Option b_}{base:Heap}
theorem Kk(T:Txt K mg)(A:DefAt K mg "_law_like_well" iA):Callee P w K mg base "_law_like_well" uF [] 1 false [.bw,.bw,.sh,.bw] mU:=
 cn (m':=dC) A jq fun f cdv A outer s H g E hr hu1=>have hu64:=hr.units;(al (gm Mt rfl (gG (by rfl) T.b_range (a9 (ae 2) ba)) (bW 4 jq.nd) (al (gm Mt rfl (gG (by rfl) T.b_range (a9 (ae 2) ba)) (bW 5 jq.nd) (al (bp (SW.toQ (iT (dS hu64 (xB hu1 (ae 0) (ae 4)) (xB hu1 (ae 0) (ae 5))) (jJ (gK hu64 (xB hu1 (ae 1) (ae 4)) (xB hu1 (ae 1) (ae 5)))))) (al (bg bZ)
   ax)
   ax)
   ax))
   ax))
   (al (bp (ik (bE (DK rfl (by rfl) T.b_all (a9 (SO.toB (g9 (X:=(aQ bR P w K mg base jp "_law_like_well" (ar iA) f cdv A outer s H E).nox) (N':=["_law_row_here","_law_wanted"]) (nl:=1) (cap:=[0]) jq.nd rfl (eJ (osc:=(ar iA)) (ON:=jp) rfl rfl (by decide+kernel)) (gB (ae 0)) (fun _ _ _ _ _ _=>(bW 0 (show Ng (["_law_row_here","_law_wanted"]:List Str)by decide+kernel))) (eG (by decide)) (fun _ _ _ _ _ _=>gz) (fun _ _ _ _ _ _=>(gI hu64 (ae 0) (xB hu1 (ae 1) iB))))) ba)))) (Hh (m2:=dC) (al (d6 6 jq.nd (by rfl) (dF rfl) (g9 (X:=(aQ bR P w K mg base jp "_law_like_well" (ar iA) f cdv A outer s H E).nox) (N':=["_law_thing"]) (nl:=1) (cap:=[]) jq.nd rfl (eJ (osc:=(ar iA)) (ON:=jp) rfl rfl (by decide+kernel)) (gu.toC (gG (by rfl) T.b_range (a9 (ae 3) ba))) (fun _ _ _ _ _ _=>(bW 0 (show Ng (["_law_thing"]:List Str)by decide+kernel))) (eG (by decide)) (fun _ _ _ _ _ _=>gz) (fun _ _ _ _ _ _=>(lN (bz lM (bz lM cm))))))
   (al (gm Mt rfl (kK (DQ (xB hu1 (ae 0) iB) rh (rj (ae 2)))) (bW 7 jq.nd) (al (jE 6 hu1 rfl (by rfl) (eL rfl) (ae 7) (lN (bz lM (bz (v_ 2) cm))))
   ax))
   (al (bg (gI hu64 (ae 1) (bE (hU (by rfl) T.b_tuple (a9 (SO.toB (g9 (X:=(aQ bR P w K mg base jp "_law_like_well" (ar iA) f cdv A outer s H E).nox) (N':=["_law_hand","_law_due"]) (nl:=1) (cap:=[6]) jq.nd rfl (eJ (osc:=(ar iA)) (ON:=jp) rfl rfl (by decide+kernel)) (gu.toC (gG (by rfl) T.b_range (a9 (ae 2) ba))) (fun _ _ _ _ _ _=>(bW 0 (show Ng (["_law_hand","_law_due"]:List Str)by decide+kernel))) (eG (by decide)) (fun _ _ _ _ _ _=>gz) (fun _ _ _ _ _ _=>(hU (by rfl) T.b_tuple (a9 (ae 1) ba))))) ba)))))
   ax))) (AX (AX (Jk GJ))) rfl)
   ax)
   (al (bg bZ)
   ax)))
abbrev sD:Stmt:=top 12
abbrev BX:List Str:=["wishes"]
abbrev jT:List Str:=["wishes"]
theorem Lq:FnScope BX jT (ar sD):=bL
def tz:FS:=(seqF (retF [Md.bw] (fC (af (f2 (gv 0) (ci 0) bb) aa) lenD)) aw)
def fK:List D->Res D:=fun ds=>aq false (tz (aK BX.length ds))
theorem Hb(T:Txt K mg)(A:DefAt K mg "things_in" sD):Callee P w K mg base "things_in" jT [] 1 false [Md.bw] fK:=
 cn (m':=[Md.bw]) A Lq fun f cdv A outer s H g E hr hu1=>(al (bg (dL (by rfl) T.b_len (a9 (xB hu1 (ae 0) iB) ba)))
   ax)
abbrev sB:Stmt:=top 13
abbrev BV:List Str:=["wishes"]
abbrev pE:List Str:=["wishes"]
theorem Lp:FnScope BV pE (ar sB):=bL
def mR:FS:=(seqF (retF [Md.bw] (f2 (aJ (af (gv 0) aa) [] fK) (fC (af (gv 0) aa) lenD) eqD)) aw)
def jS:List D->Res D:=fun ds=>aq false (mR (aK BV.length ds))
theorem G6(T:Txt K mg)(A:DefAt K mg "is_square" sB)(c_things_in:Callee P w K mg base "things_in" jT [] 1 false [Md.bw] fK):Callee P w K mg base "is_square" pE [] 2 false [Md.bw] jS:=
 cn (m':=[Md.bw]) A Lp fun f cdv A outer s H g E hr hu1=>have hu64:=hr.units;(al (bg (gI hu64 (bE (aX c_things_in (ah (ae 0) aN))) (bE (dL (by rfl) T.b_len (a9 (ae 0) ba)))))
   ax)
abbrev uW:Stmt:=top 14
abbrev CN:List Str:=["wishes"]
abbrev uS:List Str:=["wishes"]
theorem LZ:FnScope CN uS (ar uW):=bL
def qb:FS:=(seqF (cG [Md.bw] (cP (b7 (aJ (af (gv 0) aa) [] jS))) (seqF (fun _=>Out.stuck) aw) aw) aw)
def qc:List D->Res D:=fun ds=>aq false (qb (aK CN.length ds))
theorem Lj(T:Txt K mg)(A:DefAt K mg "refuse_unless_square" uW)(c_is_square:Callee P w K mg base "is_square" pE [] 2 false [Md.bw] jS):Callee P w K mg base "refuse_unless_square" uS [] 3 false [Md.bw] qc:=
 cn (m':=[Md.bw]) A LZ fun f cdv A outer s H g E hr hu1=>(al (bp (jB (ik (bE (aX c_is_square (ah (ae 0) aN))))) (al oN
   ax)
   ax)
   ax)
abbrev uX:Stmt:=top 14
abbrev CL:List Str:=["wishes"]
abbrev uV:List Str:=["wishes"]
theorem L0:FnScope CL uV (ar uX):=bL
def lj:FS:=(seqF (cG [Md.bw] (cP (b7 (aJ (af (gv 0) aa) [] jS))) (seqF (gJ [Md.bw] "NotSquare" (af (fun _=>Res.ok (D.str "there must be as many things as hands")) aa)) aw) aw) aw)
def m4:List D->Res D:=fun ds=>aq false (lj (aK CL.length ds))
theorem LP(T:Txt K mg)(A:DefAt K mg "refuse_unless_square" uX)(c_is_square:Callee P w K mg base "is_square" pE [] 2 false [Md.bw] jS){C_NotSquare:Addr}(xc_NotSquare:XC K mg "NotSquare" C_NotSquare)(xn_NotSquare:XN K "NotSquare" C_NotSquare):CalleeX P w K mg base "refuse_unless_square" uV [] 3 false [Md.bw] m4:=by
 refine oK (k:=2) (fs:=lj) (m':=[Md.bw]) A L0 rfl (fun _ _ _ _ _ _ us hl=>by obtain⟨u0,rfl⟩:=nY us hl;kernel_rfl) fun f cdv A outer s H g E hr=>?_;have hu1:=fG hr;have hu64:=hr.units;exact(al (bp (jB (ik (bE (aX c_is_square (ah (ae 0) aN))))) (al (zU rfl xc_NotSquare xn_NotSquare (by rfl) (bz xY cm))
   ax)
   ax)
   ax)
abbrev uR:Stmt:=top 34
abbrev CM:List Str:=["wishes"]
abbrev p0:List Str:=["wishes"]
theorem L3:FnScope CM p0 (ar uR):=bL
def pZ:FS:=(seqF (cG [Md.bw] (aP (f2 (fC (af (gv 0) aa) lenD) (ci 5) d9)) (seqF (fun _=>Out.stuck) aw) aw) aw)
def ll:List D->Res D:=fun ds=>aq false (pZ (aK CM.length ds))
theorem LG(T:Txt K mg)(A:DefAt K mg "refuse_too_many_for_lots" uR):Callee P w K mg base "refuse_too_many_for_lots" p0 [] 1 false [Md.bw] ll:=
 cn (m':=[Md.bw]) A L3 fun f cdv A outer s H g E hr hu1=>(al (bp (eQ (bE (dL (by rfl) T.b_len (a9 (ae 0) ba))) (bE (zT (by rfl) T.k_MOST_HANDS_IN_LOTS))) (al oN
   ax)
   ax)
   ax)
abbrev uT:Stmt:=top 34
abbrev CJ:List Str:=["wishes"]
abbrev qa:List Str:=["wishes"]
theorem L1:FnScope CJ qa (ar uT):=bL
def vB:FS:=(seqF (cG [Md.bw] (aP (f2 (fC (af (gv 0) aa) lenD) (ci 5) d9)) (seqF (gJ [Md.bw] "TooMany" (af (fun _=>Res.ok (D.str "there must be at most five hands")) aa)) aw) aw) aw)
def lp:List D->Res D:=fun ds=>aq false (vB (aK CJ.length ds))
theorem LV(T:Txt K mg)(A:DefAt K mg "refuse_too_many_for_lots" uT){C_TooMany:Addr}(xc_TooMany:XC K mg "TooMany" C_TooMany)(xn_TooMany:XN K "TooMany" C_TooMany):CalleeX P w K mg base "refuse_too_many_for_lots" qa [] 1 false [Md.bw] lp:=by
 refine oK (k:=0) (fs:=vB) (m':=[Md.bw]) A L1 rfl (fun _ _ _ _ _ _ us hl=>by obtain⟨u0,rfl⟩:=nY us hl;kernel_rfl) fun f cdv A outer s H g E hr=>?_;have hu1:=fG hr;have hu64:=hr.units;exact(al (bp (eQ (bE (dL (by rfl) T.b_len (a9 (ae 0) ba))) (bE (zT (by rfl) T.k_MOST_HANDS_IN_LOTS))) (al (zU rfl xc_TooMany xn_TooMany (by rfl) (bz xY cm))
   ax)
   ax)
   ax)
abbrev uP:Stmt:=top 17
abbrev CH:List Str:=["one","other","rest"]
abbrev vA:List Str:=["one","other"]
theorem pS:FnScope CH vA (ar uP):=bL
abbrev mZ:FQ:=(aP (f2 (gv 1) (ci 0) neD))
abbrev mY:FS:=(seqF (ap cw 2 (f2 (gv 0) (gv 1) bi)) (seqF (ap cw 0 (gv 1)) (seqF (ap cw 1 (gv 2)) aw)))
def uY:FS:=(seqF (dm cw mZ mY 1000) (seqF (retF cw (fC (af (gv 0) aa) absD)) aw))
def m7:List D->Res D:=fun ds=>aq false (uY (aK CH.length ds))
theorem K0(T:Txt K mg)(A:DefAt K mg "greatest_divisor" uP):Callee P w K mg base "greatest_divisor" vA [] 1 false [.sh,.sh] m7:=
 cn (m':=cw) A pS fun f cdv A outer s H g E hr hu1=>have hu64:=hr.units;(al (rX 1000 Mt (gK hu64 (ae 1) iB) (al (cr 2 pS.nd (fI (ae 0) (ae 1)))
   (al (cr 0 pS.nd (v_ 1))
   (al (cr 1 pS.nd (v_ 2))
   ax))))
   (al (bg (Eh (by rfl) T.b_abs (a9 (ae 0) ba)))
   ax))
abbrev sV:Stmt:=top 7
abbrev BZ:List Str:=["value"]
abbrev pb:List Str:=["value"]
theorem Lg:FnScope BZ pb (ar sV):=bL
def JW:FS:=(seqF (retF [Md.bw] (eM (f1 (gv 0) (iJ "int")) (jX (f1 (gv 0) (iJ "bool"))))) aw)
def jl:List D->Res D:=fun ds=>aq false (JW (aK BZ.length ds))
theorem F9(T:Txt K mg)(A:DefAt K mg "is_whole" sV):Callee P w K mg base "is_whole" pb [] 1 false [Md.bw] jl:=
 cn (m':=[Md.bw]) A Lg fun f cdv A outer s H g E hr hu1=>(al (bg (qO (xW "int" "int" rfl (GA _) (by rfl) T.b_isinstance (by rfl) T.b_int (ae 0)) (oi (DN (xW "bool" "bool" rfl (HR _) (by rfl) T.b_isinstance (by rfl) T.b_bool (ae 0))))))
   ax)
abbrev sT:Stmt:=top 18
abbrev Bx:List Str:=["top","bottom","divisor"]
abbrev sJ:List Str:=["top","bottom"]
theorem tH:FnScope Bx sJ (ar sT):=bL
def sF:FS:=(seqF (cG cw (js (cP (b7 (aJ (af (gv 0) aa) [] jl))) (js (cP (b7 (aJ (af (gv 1) aa) [] jl))) (aP (f2 (gv 1) (ci 0) eqD)))) (seqF (fun _=>Out.stuck) aw) aw) (seqF (ap cw 2 (aJ (af (gv 0) (af (gv 1) aa)) [] m7)) (seqF (cG cw (aP (f2 (gv 1) (ci 0) gR)) (seqF (ap cw 2 (f1 (gv 2) ki)) aw) aw) (seqF (retF cw (iI (af (f2 (gv 0) (gv 2) lJ) (af (f2 (gv 1) (gv 2) lJ) aa)))) aw))))
def o8:List D->Res D:=fun ds=>aq false (sF (aK Bx.length ds))
theorem F7(T:Txt K mg)(A:DefAt K mg "fraction" sT)(c_is_whole:Callee P w K mg base "is_whole" pb [] 1 false [Md.bw] jl)(c_greatest_divisor:Callee P w K mg base "greatest_divisor" vA [] 1 false [.sh,.sh] m7):Callee P w K mg base "fraction" sJ [] 2 false [.sh,.sh] o8:=
 cn (m':=cw) A tH fun f cdv A outer s H g E hr hu1=>have hu64:=hr.units;(al (bp (SW.toQ (j4 (jB (ik (bE (aX c_is_whole (ah (ae 0) aN))))) (j4 (jB (ik (bE (aX c_is_whole (ah (ae 1) aN))))) (yy (dS hu64 (ae 1) iB))))) (al oN
   ax)
   ax)
   (al (cr 2 tH.nd (aX c_greatest_divisor (dE (v_ 0) (dE (v_ 1) aN))))
   (al (bp (iG (ae 1) iB) (al (cr 2 tH.nd (DM (ae 2)))
   ax)
   ax)
   (al (bg (lN (bz (zS (ae 0) (ae 2)) (bz (zS (ae 1) (ae 2)) cm))))
   ax))))
abbrev jR:Stmt:=top 36
abbrev la:List Str:=["dealings","things","table","hand","got"]
abbrev pF:List Str:=["dealings","things"]
theorem li:FnScope la pF (ar jR):=bL
abbrev Cs:FS:=(seqF (ap cL 4 (cU 1 [3] (aV b9 (gv 0)) (aS 0) (fun _=>Res.ok true) (f2 (gv 0) (gv 1) bb))) (seqF (cM "list" cL 2 (af (fC (af (cU 1 [0,4] (cj b6 (af (gv 1) aa)) (aS 0) (fun _=>Res.ok true) (aJ (af (fM "list" (gv 2) (af (gv 0) aa) ox) (af (fC (af (gv 1) aa) lenD) aa)) [] o8)) aa) tupD) aa) appD) aw))
def tx:FS:=(seqF (ap iH 2 (dN aa)) (seqF (db cL (cj b6 (af (fC (af (f2 (gv 0) (ci 0) bb) aa) lenD) aa)) (aS 3) Cs) (seqF (retF cL (fC (af (gv 2) aa) tupD)) aw)))
def k9:List D->Res D:=fun ds=>aq false (tx (aK la.length ds))
theorem Ha(T:Txt K mg)(A:DefAt K mg "shares_in" jR)(c_fraction:Callee P w K mg base "fraction" sJ [] 2 false [.sh,.sh] o8):Callee P w K mg base "shares_in" pF [] 3 false q0 k9:=
 cn (m':=cL) A li fun f cdv A outer s H g E hr hu1=>(al (d6 2 li.nd (by rfl) (dF rfl) (fH cm))
   (al (gm Mt rfl (gG (by rfl) T.b_range (a9 (bE (dL (by rfl) T.b_len (a9 (xB hu1 (ae 0) iB) ba))) ba)) (bW 3 li.nd) (al (cr 4 li.nd (SO.toE (g9 (X:=(aQ bR P w K mg base la "shares_in" (ar jR) f cdv A outer s H E).nox) (N':=["dealing","hand"]) (nl:=1) (cap:=[3]) li.nd rfl (eJ (osc:=(ar jR)) (ON:=la) rfl rfl (by decide+kernel)) (gB (ae 0)) (fun _ _ _ _ _ _=>(bW 0 (show Ng (["dealing","hand"]:List Str)by decide+kernel))) (eG (by decide)) (fun _ _ _ _ _ _=>gz) (fun _ _ _ _ _ _=>(gp hu1 (ae 0) (ae 1))))))
   (al (iY 2 rfl MT NL NM mH ou (by rfl) (eL rfl) (bz (hU (by rfl) T.b_tuple (a9 (SO.toB (g9 (X:=(aQ bR P w K mg base la "shares_in" (ar jR) f cdv A outer s H E).nox) (N':=["thing","dealings","got"]) (nl:=1) (cap:=[0,4]) li.nd rfl (eJ (osc:=(ar jR)) (ON:=la) rfl rfl (by decide+kernel)) (gu.toC (gG (by rfl) T.b_range (a9 (ae 1) ba))) (fun _ _ _ _ _ _=>(bW 0 (show Ng (["thing","dealings","got"]:List Str)by decide+kernel))) (eG (by decide)) (fun _ _ _ _ _ _=>gz) (fun _ _ _ _ _ _=>(aX c_fraction (dE (vS MT P2 PySem.F.type_list_count Jw JC (ae 2) (a9 (ae 0) ba)) (dE (dL (by rfl) T.b_len (a9 (ae 1) ba)) aN)))))) ba)) cm))
   ax)))
   (al (bg (hU (by rfl) T.b_tuple (a9 (ae 2) ba)))
   ax)))
abbrev sU:Stmt:=top 8
abbrev BY:List Str:=["value","bound"]
abbrev sK:List Str:=["value","bound"]
theorem Lf:FnScope BY sK (ar sU):=bL
def sG:FS:=(seqF (retF q0 (eM (aJ (af (gv 0) aa) [] jl) (lQ (ci 0) (gv 0) (gv 1) wA gR))) aw)
def mE:List D->Res D:=fun ds=>aq false (sG (aK BY.length ds))
theorem F8(T:Txt K mg)(A:DefAt K mg "is_below" sU)(c_is_whole:Callee P w K mg base "is_whole" pb [] 1 false [Md.bw] jl):Callee P w K mg base "is_below" sK [] 2 false q0 mE:=
 cn (m':=q0) A Lf fun f cdv A outer s H g E hr hu1=>(al (bg (qO (aX c_is_whole (ah (ae 0) aN)) (oi (Iq Dl xG Dj Dk iB (ae 0) (ae 1)))))
   ax)
abbrev sX:Stmt:=top 9
abbrev Ct:List Str:=["numbers","bound","ahead","place","number"]
abbrev tW:List Str:=["numbers","bound"]
theorem pI:FnScope Ct tW (ar sX):=bL
abbrev uM:FS:=(seqF (cG cL (js (cP (b7 (aJ (af (gv 4) (af (gv 1) aa)) [] mE))) (aP (f2 (gv 4) (gv 2) hZ))) (seqF (retF cL (gv 3)) aw) aw) (seqF (putF cL 2 (gv 4) (fun _=>Res.ok (D.bl true))) aw))
def tU:FS:=(seqF (ap iH 2 (fun _=>Res.ok (D.dic []))) (seqF (db cL (nK (gv 0)) (nI (io (aS 3) (io (aS 4) lK))) uM) (seqF (retF cL (fC (af (gv 0) aa) lenD)) aw)))
def pM:List D->Res D:=fun ds=>aq false (tU (aK Ct.length ds))
theorem IF(T:Txt K mg)(A:DefAt K mg "first_wrong" sX)(c_is_below:Callee P w K mg base "is_below" sK [] 2 false q0 mE):Callee P w K mg base "first_wrong" tW [] 3 false q0 pM:=
 cn (m':=cL) A pI fun f cdv A outer s H g E hr hu1=>(al (d6 2 pI.nd (by rfl) (dF rfl) jH)
   (al (q8 Mt rfl (Gw (by rfl) T.b_enumerate (vD 0)) (xA rfl (oy (bW 3 pI.nd) (oy (bW 4 pI.nd) wZ))) (al (bp (SW.toQ (j4 (jB (ik (bE (aX c_is_below (ah (ae 4) (ah (ae 1) aN)))))) (yy (nu hu1 (ae 4) (ae 2))))) (al (bg (v_ 3))
   ax)
   ax)
   (al (jE 2 hu1 rfl (by rfl) (eL rfl) (ae 4) bZ)
   ax)))
   (al (bg (dL (by rfl) T.b_len (a9 (ae 0) ba)))
   ax)))
abbrev tj:Stmt:=top 10
abbrev Cc:List Str:=["numbers","bound"]
abbrev tZ:List Str:=["numbers","bound"]
theorem Ll:FnScope Cc tZ (ar tj):=bL
def sZ:FS:=(seqF (retF q0 (f2 (aJ (af (gv 0) (af (gv 1) aa)) [] pM) (fC (af (gv 0) aa) lenD) eqD)) aw)
def pr:List D->Res D:=fun ds=>aq false (sZ (aK Cc.length ds))
theorem Jo(T:Txt K mg)(A:DefAt K mg "are_unlike" tj)(c_first_wrong:Callee P w K mg base "first_wrong" tW [] 3 false q0 pM):Callee P w K mg base "are_unlike" tZ [] 4 false q0 pr:=
 cn (m':=q0) A Ll fun f cdv A outer s H g E hr hu1=>have hu64:=hr.units;(al (bg (gI hu64 (bE (aX c_first_wrong (ah (ae 0) (ah (ae 1) aN)))) (bE (dL (by rfl) T.b_len (a9 (ae 0) ba)))))
   ax)
abbrev tR:Stmt:=top 11
abbrev Cy:List Str:=["numbers","bound"]
abbrev uN:List Str:=["numbers","bound"]
theorem LW:FnScope Cy uN (ar tR):=bL
def uL:FS:=(seqF (retF q0 (eM (f2 (fC (af (gv 0) aa) lenD) (gv 1) eqD) (aJ (af (gv 0) (af (gv 1) aa)) [] pr))) aw)
def pW:List D->Res D:=fun ds=>aq false (uL (aK Cy.length ds))
theorem JV(T:Txt K mg)(A:DefAt K mg "has_each_once" tR)(c_are_unlike:Callee P w K mg base "are_unlike" tZ [] 4 false q0 pr):Callee P w K mg base "has_each_once" uN [] 5 false q0 pW:=
 cn (m':=q0) A LW fun f cdv A outer s H g E hr hu1=>have hu64:=hr.units;(al (bg (qO (gI hu64 (bE (dL (by rfl) T.b_len (a9 (ae 0) ba))) (ae 1)) (oi (aX c_are_unlike (ah (ae 0) (ah (ae 1) aN))))))
   ax)
abbrev sW:Stmt:=top 15
abbrev B0:List Str:=["wishes","order"]
abbrev pc:List Str:=["wishes","order"]
theorem K9:FnScope B0 pc (ar sW):=bL
def lc:FS:=(seqF (cG q0 (aP (f2 (gv 1) (fun _=>Res.ok D.non) kj)) (seqF (retF q0 (fC (af (fC (af (gv 0) aa) lenD) aa) jA)) aw) aw) (seqF (cG q0 (cP (b7 (aJ (af (gv 1) (af (fC (af (gv 0) aa) lenD) aa)) [] pW))) (seqF (fun _=>Out.stuck) aw) aw) (seqF (retF q0 (fC (af (gv 1) aa) jy)) aw)))
def jm:List D->Res D:=fun ds=>aq false (lc (aK B0.length ds))
theorem Ga(T:Txt K mg)(A:DefAtD K mg "order_of" sW [Value.none])(c_has_each_once:Callee P w K mg base "has_each_once" uN [] 5 false q0 pW):Callee P w K mg base "order_of" pc [] 6 false q0 jm:=by
 refine l8 (ds:=[]) (k:=5) (fs:=lc) (m':=q0) A K9 rfl 2 rfl (fun _ _ _ _ _ _ _ us hl=>by obtain⟨u0,u1,rfl⟩:=lG us hl;exact⟨_,rfl,rfl⟩) fun f cdv A outer s H g E hr=>?_;have hu1:=fG hr;have hu64:=hr.units;exact(al (bp (nq (ae 1) (bE jD)) (al (bg (SO.toE (rF rfl (by rfl) T.b_list (by rfl) T.b_range (a9 (bE (dL (by rfl) T.b_len (a9 (ae 0) ba))) ba))))
   ax)
   ax)
   (al (bp (jB (ik (bE (aX c_has_each_once (ah (ae 1) (ah (bE (dL (by rfl) T.b_len (a9 (ae 0) ba))) aN)))))) (al oN
   ax)
   ax)
   (al (bg (SO.toE (yR (by rfl) T.b_list (a9 (ae 1) ba))))
   ax)))
abbrev mQ:Stmt:=top 20
abbrev pB:List Str:=["row","things"]
abbrev pD:List Str:=["row","things"]
theorem B7:FnScope pB pD (ar mQ):=bL
def tu:FS:=(seqF (retF q0 (f2 (cU 1 [1] (aV b9 (gv 0)) (aS 0) (aP (f2 (gv 0) (gv 1) hZ)) (gv 0)) (ci 0) bb)) aw)
def jo:List D->Res D:=fun ds=>aq false (tu (aK pB.length ds))
theorem GY(T:Txt K mg)(A:DefAt K mg "best_left" mQ):Callee P w K mg base "best_left" pD [] 1 false q0 jo:=
 cn (m':=q0) A B7 fun f cdv A outer s H g E hr hu1=>(al (bg (gp hu1 (SO.toB (g9 (X:=(aQ bR P w K mg base pB "best_left" (ar mQ) f cdv A outer s H E).nox) (N':=["thing","things"]) (nl:=1) (cap:=[1]) B7.nd rfl (eJ (osc:=(ar mQ)) (ON:=pB) rfl rfl (by decide+kernel)) (gB (ae 0)) (fun _ _ _ _ _ _=>(bW 0 (show Ng (["thing","things"]:List Str)by decide+kernel))) (eG (by decide)) (fun _ _ _ _ _ _=>(oF (nu hu1 (ae 0) (ae 1)))) (fun _ _ _ _ _ _=>(v_ 0)))) iB))
   ax)
abbrev tt:Stmt:=top 21
abbrev Cd:List Str:=["owns","line","thing","hand"]
abbrev t8:List Str:=["owns","line","thing"]
theorem Cq:FnScope Cd t8 (ar tt):=bL
abbrev mW:FS:=(seqF (cG dW (aP (f2 (f2 (gv 0) (gv 3) bb) (gv 2) eqD)) (seqF (retF dW (gv 3)) aw) aw) aw)
def tY:FS:=(seqF (db dW (aV b9 (gv 1)) (aS 3) mW) (seqF (retF dW (fun _=>Res.ok D.non)) aw))
def pv:List D->Res D:=fun ds=>aq false (tY (aK Cd.length ds))
theorem Jq(T:Txt K mg)(A:DefAt K mg "owner_left" tt):Callee P w K mg base "owner_left" t8 [] 1 false eU pv:=
 cn (m':=dW) A Cq fun f cdv A outer s H g E hr hu1=>have hu64:=hr.units;(al (FL Mt rfl (gB (ae 1)) (fun _=>(bW 3 Cq.nd)) (fun _=>(al (bp (dS hu64 (xB hu1 (ae 0) (ae 3)) (ae 2)) (al (bg (v_ 3))
   ax)
   ax)
   ax)))
   (al (bg jD)
   ax))
abbrev uK:Stmt:=top 27
abbrev Cu:List Str:=["owns","line","thing","owner"]
abbrev uJ:List Str:=["owns","line","thing"]
theorem Cz:FnScope Cu uJ (ar uK):=bL
def uI:FS:=(seqF (ap dW 3 (aJ (af (gv 0) (af (gv 1) (af (gv 2) aa))) [] pv)) (seqF (retF dW (jt (aP (f2 (gv 3) (fun _=>Res.ok D.non) kj)) (f2 (gv 1) (ci 0) bb) (gv 3))) aw))
def mV:List D->Res D:=fun ds=>aq false (uI (aK Cu.length ds))
theorem K4(T:Txt K mg)(A:DefAt K mg "hand_pointed_at" uK)(c_owner_left:Callee P w K mg base "owner_left" t8 [] 1 false eU pv):Callee P w K mg base "hand_pointed_at" uJ [] 2 false eU mV:=
 cn (m':=dW) A Cz fun f cdv A outer s H g E hr hu1=>(al (cr 3 Cz.nd (aX c_owner_left (ah (ae 0) (ah (ae 1) (ah (ae 2) aN)))))
   (al (bg (xV (nq (ae 3) (bE jD)) (gp hu1 (ae 1) iB) (v_ 3)))
   ax))
abbrev sC:Stmt:=top 28
abbrev BW:List Str:=["first","targets","behind","ring","hand"]
abbrev tD:List Str:=["first","targets","behind"]
theorem pK:FnScope BW tD (ar sC):=bL
abbrev tJ:FQ:=(b8 (aP (f2 (gv 4) (gv 0) d9)) (aP (f2 (fC (af (gv 3) aa) lenD) (fC (af (gv 1) aa) lenD) gR)))
abbrev Cr:FS:=(seqF (cM "list" eS 3 (af (iI (af (gv 4) (af (f2 (gv 1) (gv 4) bb) aa))) aa) appD) (seqF (ap eS 4 (f2 (gv 2) (gv 4) bb)) aw))
def tw:FS:=(seqF (ap [.sh,.bw,.bw,.sh,.sh] 3 (dN (af (iI (af (gv 0) (af (f2 (gv 1) (gv 0) bb) aa))) aa))) (seqF (ap eS 4 (f2 (gv 2) (gv 0) bb)) (seqF (dm eS tJ Cr 64) (seqF (retF eS (jt (aP (f2 (gv 4) (gv 0) eqD)) (fC (af (gv 3) aa) tupD) (fun _=>Res.ok D.non))) aw))))
def pA:List D->Res D:=fun ds=>aq false (tw (aK BW.length ds))
theorem G9(T:Txt K mg)(A:DefAt K mg "ring_from" sC):Callee P w K mg base "ring_from" tD [] 1 false [.sh,.bw,.bw] pA:=
 cn (m':=eS) A pK fun f cdv A outer s H g E hr hu1=>have hu64:=hr.units;(al (d6 3 pK.nd (by rfl) (dF rfl) (fH (bz (lN (bz (v_ 0) (bz (gp hu1 (ae 1) (ae 0)) cm))) cm)))
   (al (cr 4 pK.nd (gp hu1 (ae 2) (ae 0)))
   (al (rX 64 Mt (SW.toQ (iT (eQ (ae 4) (ae 0)) (jJ (iG (bE (dL (by rfl) T.b_len (a9 (ae 3) ba))) (bE (dL (by rfl) T.b_len (a9 (ae 1) ba))))))) (al (iY 3 rfl MT NL NM mH ou (by rfl) (eL rfl) (bz (lN (bz (v_ 4) (bz (gp hu1 (ae 1) (ae 4)) cm))) cm))
   (al (cr 4 pK.nd (gp hu1 (ae 2) (ae 4)))
   ax)))
   (al (bg (xV (dS hu64 (ae 4) (ae 0)) (hU (by rfl) T.b_tuple (a9 (ae 3) ba)) jD))
   ax))))
abbrev jV:Stmt:=top 29
abbrev lu:List Str:=["wishes","owns","line","things","targets","behind","hand","walks"]
abbrev uH:List Str:=["wishes","owns","line","things"]
theorem lq:FnScope lu uH (ar jV):=bL
abbrev CD:FS:=(seqF (putF gP 4 (gv 6) (aJ (af (f2 (gv 0) (gv 6) bb) (af (gv 3) aa)) [] jo)) (seqF (putF gP 5 (gv 6) (aJ (af (gv 1) (af (gv 2) (af (f2 (gv 4) (gv 6) bb) aa))) [] mV)) aw))
def uD:FS:=(seqF (ap [.bw,.bw,.bw,.bw,.sh,.sh,.sh,.sh] 4 (fun _=>Res.ok (D.dic []))) (seqF (ap [.bw,.bw,.bw,.bw,.ow,.sh,.sh,.sh] 5 (fun _=>Res.ok (D.dic []))) (seqF (db gP (aV b9 (gv 2)) (aS 6) CD) (seqF (ap gP 7 (cU 1 [4,5] (aV b9 (gv 2)) (aS 0) (fun _=>Res.ok true) (aJ (af (gv 0) (af (gv 1) (af (gv 2) aa))) [] pA))) (seqF (retF nz (fC (af (cU 1 [] (aV b9 (gv 7)) (aS 0) (aP (f2 (gv 0) (fun _=>Res.ok D.non) eY)) (gv 0)) aa) oj)) aw)))))
def pU:List D->Res D:=fun ds=>aq false (uD (aK lu.length ds))
theorem Km(T:Txt K mg)(A:DefAt K mg "rings_of_round" jV)(c_best_left:Callee P w K mg base "best_left" pD [] 1 false q0 jo)(c_hand_pointed_at:Callee P w K mg base "hand_pointed_at" uJ [] 2 false eU mV)(c_ring_from:Callee P w K mg base "ring_from" tD [] 1 false [.sh,.bw,.bw] pA):Callee P w K mg base "rings_of_round" uH [] 3 false fT pU:=
 cn (m':=nz) A lq fun f cdv A outer s H g E hr hu1=>(al (d6 4 lq.nd (by rfl) (dF rfl) jH)
   (al (d6 5 lq.nd (by rfl) (dF rfl) jH)
   (al (q8 Mt rfl (yL (vD 2)) (bW 6 lq.nd) (al (jE 4 hu1 rfl (by rfl) (eL rfl) (ae 6) (aX c_best_left (ah (xB hu1 (ae 0) (ae 6)) (ah (ae 3) aN))))
   (al (jE 5 hu1 rfl (by rfl) (eL rfl) (ae 6) (aX c_hand_pointed_at (ah (ae 1) (ah (ae 2) (ah (xB hu1 (ae 4) (ae 6)) aN)))))
   ax)))
   (al (mJ 7 (X:=(aQ bR P w K mg base lu "rings_of_round" (ar jV) f cdv A outer s H E).nox) (m:=gP) (N':=["hand","targets","behind"]) (nl:=1) (cap:=[4,5]) lq.nd rfl (by rfl) (by rfl) (eJ (osc:=(ar jV)) (ON:=lu) rfl rfl (by decide+kernel)) (gB (ae 2)) (fun _ _ _ _ _ _=>(bW 0 (show Ng (["hand","targets","behind"]:List Str)by decide+kernel))) (eG (by decide)) (fun _ _ _ _ _ _=>gz) (fun _ _ _ _ _ _=>(aX c_ring_from (dE (v_ 0) (ah (ae 1) (ah (ae 2) aN))))))
   (al (bg (SO.toE (Jm hr (by rfl) T.b_sorted (a9 (SO.toB (g9 (X:=(aQ bR P w K mg base lu "rings_of_round" (ar jV) f cdv A outer s H E).nox) (N':=["ring"]) (nl:=1) (cap:=[]) lq.nd rfl (eJ (osc:=(ar jV)) (ON:=lu) rfl rfl (by decide+kernel)) (gB (ae 7)) (fun _ _ _ _ _ _=>(bW 0 (show Ng (["ring"]:List Str)by decide+kernel))) (eG (by decide)) (fun _ _ _ _ _ _=>(oF (Ef (ae 0) (bE jD)))) (fun _ _ _ _ _ _=>(v_ 0)))) ba))))
   ax)))))
abbrev sf:Stmt:=top 22
abbrev Ap:List Str:=["rings","got","ring","hand","thing"]
abbrev my:List Str:=["rings"]
theorem mK:FnScope Ap my (ar sf):=bL
abbrev Bq:FS:=(seqF (putF j8 1 (gv 3) (gv 4)) aw)
abbrev Br:FS:=(seqF (db j8 (aV b9 (gv 2)) (nI (io (aS 3) (io (aS 4) lK))) Bq) aw)
def sk:FS:=(seqF (ap j7 1 (fun _=>Res.ok (D.dic []))) (seqF (db j8 (aV b9 (gv 0)) (aS 2) Br) (seqF (retF j7 (gv 1)) aw)))
def jO:List D->Res D:=fun ds=>aq false (sk (aK Ap.length ds))
theorem EZ(T:Txt K mg)(A:DefAt K mg "got_in" sf):Callee P w K mg base "got_in" my [] 1 false [Md.bw] jO:=
 cn (m':=j7) A mK fun f cdv A outer s H g E hr hu1=>(al (d6 1 mK.nd (by rfl) (dF rfl) jH)
   (al (q8 Mt rfl (yL (vD 0)) (bW 2 mK.nd) (al (gm Mt rfl (kK (v_ 2)) (xA rfl (oy (bW 3 mK.nd) (oy (bW 4 mK.nd) wZ))) (al (jE 1 hu1 rfl (by rfl) (eL rfl) (ae 3) (v_ 4))
   ax))
   ax))
   (al (qI 1 rfl (bg (v_ 1)))
   ax)))
abbrev jN:Stmt:=top 30
abbrev kW:List Str:=["wishes","owns","order","line","things","told","rings","got","taken"]
abbrev o5:List Str:=["wishes","owns","order"]
theorem iy:FnScope kW o5 (ar jN):=bL
abbrev B1:FQ:=(b7 (gv 3))
abbrev Bs:FS:=(seqF (ap eR 6 (aJ (af (gv 0) (af (gv 1) (af (gv 3) (af (gv 4) aa)))) [] pU)) (seqF (ap eR 7 (aJ (af (gv 6) aa) [] jO)) (seqF (ap eR 8 (f1 (gv 7) qN)) (seqF (ap eR 3 (cU 1 [7] (aV b9 (gv 3)) (aS 0) (aP (f2 (gv 0) (gv 1) dD)) (gv 0))) (seqF (ap ny 4 (cU 1 [8] (aV b9 (gv 4)) (aS 0) (aP (f2 (gv 0) (gv 1) dD)) (gv 0))) (seqF (cM "list" nv 5 (af (gv 6) aa) appD) aw))))))
def o4:FS:=(seqF (ap gO 3 (aJ (af (gv 0) (af (gv 2) aa)) [] jm)) (seqF (ap gO 4 (fC (af (aJ (af (gv 0) aa) [] fK) aa) jA)) (seqF (ap gO 5 (dN aa)) (seqF (dm eR B1 Bs 64) (seqF (retF gO (gv 5)) aw)))))
def mw:List D->Res D:=fun ds=>aq false (o4 (aK kW.length ds))
theorem E1(T:Txt K mg)(A:DefAtD K mg "rounds" jN [Value.none])(c_order_of:Callee P w K mg base "order_of" pc [] 6 false q0 jm)(c_things_in:Callee P w K mg base "things_in" jT [] 1 false [Md.bw] fK)(c_rings_of_round:Callee P w K mg base "rings_of_round" uH [] 3 false fT pU)(c_got_in:Callee P w K mg base "got_in" my [] 1 false [Md.bw] jO):Callee P w K mg base "rounds" o5 [] 7 false eU mw:=by
 refine l8 (ds:=[]) (k:=6) (fs:=o4) (m':=gO) A iy rfl 3 rfl (fun _ _ _ _ _ _ _ us hl=>by obtain⟨u0,u1,u2,rfl⟩:=xK us hl;exact⟨_,rfl,rfl⟩) fun f cdv A outer s H g E hr=>?_;have hu1:=fG hr;have hu64:=hr.units;exact(al (cr 3 iy.nd (aX c_order_of (ah (ae 0) (ah (ae 2) aN))))
   (al (cr 4 iy.nd (SO.toE (rF rfl (by rfl) T.b_list (by rfl) T.b_range (a9 (bE (aX c_things_in (ah (ae 0) aN))) ba))))
   (al (d6 5 iy.nd (by rfl) (dF rfl) (fH cm))
   (al (rX 64 Mt (ik (ae 3)) (By (m':=[.bw,.bw,.bw,.sh,.ow,.ow,.sh,.sh,.sh]) 4 (By (m':=nv) 3 (al (cr 6 iy.nd (aX c_rings_of_round (ah (ae 0) (ah (ae 1) (ah (ae 3) (ah (ae 4) aN))))))
   (al (cr 7 iy.nd (aX c_got_in (ah (ae 6) aN)))
   (al (cr 8 iy.nd (SO.toE (EX rfl (by rfl) T.b_list (ae 7))))
   (al (mJ 3 (X:=(aQ bR P w K mg base kW "rounds" (ar jN) f cdv A outer s H E).nox) (m:=eR) (N':=["hand","got"]) (nl:=1) (cap:=[7]) iy.nd rfl (by rfl) (by rfl) (eJ (osc:=(ar jN)) (ON:=kW) rfl rfl (by decide+kernel)) (gB (ae 3)) (fun _ _ _ _ _ _=>(bW 0 (show Ng (["hand","got"]:List Str)by decide+kernel))) (eG (by decide)) (fun _ _ _ _ _ _=>(oF (yx hu1 (ae 0) (ae 1)))) (fun _ _ _ _ _ _=>(v_ 0)))
   (al (mJ 4 (X:=(aQ bR P w K mg base kW "rounds" (ar jN) f cdv A outer s H E).nox) (m:=ny) (N':=["thing","taken"]) (nl:=1) (cap:=[8]) iy.nd rfl (by rfl) (by rfl) (eJ (osc:=(ar jN)) (ON:=kW) rfl rfl (by decide+kernel)) (gB (ae 4)) (fun _ _ _ _ _ _=>(bW 0 (show Ng (["thing","taken"]:List Str)by decide+kernel))) (eG (by decide)) (fun _ _ _ _ _ _=>(oF (yx hu1 (ae 0) (ae 1)))) (fun _ _ _ _ _ _=>(v_ 0)))
   (al (iY 5 rfl MT NL NM mH ou (by rfl) (eL rfl) (bz (v_ 6) cm))
   ax)))))) rfl) rfl))
   (al (qI 5 rfl (bg (v_ 5)))
   ax)))))
abbrev mM:Stmt:=top 23
abbrev pN:List Str:=["got"]
abbrev mO:List Str:=["got"]
theorem Cp:FnScope pN mO (ar mM):=bL
def tX:FS:=(seqF (retF [Md.bw] (fC (af (cU 1 [0] (cj b6 (af (fC (af (gv 0) aa) lenD) aa)) (aS 0) (fun _=>Res.ok true) (f2 (gv 1) (gv 0) bb)) aa) tupD)) aw)
def jP:List D->Res D:=fun ds=>aq false (tX (aK pN.length ds))
theorem Jp(T:Txt K mg)(A:DefAt K mg "dealing_of" mM):Callee P w K mg base "dealing_of" mO [] 1 false [Md.bw] jP:=
 cn (m':=[Md.bw]) A Cp fun f cdv A outer s H g E hr hu1=>(al (bg (hU (by rfl) T.b_tuple (a9 (SO.toB (g9 (X:=(aQ bR P w K mg base pN "dealing_of" (ar mM) f cdv A outer s H E).nox) (N':=["hand","got"]) (nl:=1) (cap:=[0]) Cp.nd rfl (eJ (osc:=(ar mM)) (ON:=pN) rfl rfl (by decide+kernel)) (gu.toC (gG (by rfl) T.b_range (a9 (bE (dL (by rfl) T.b_len (a9 (ae 0) ba))) ba))) (fun _ _ _ _ _ _=>(bW 0 (show Ng (["hand","got"]:List Str)by decide+kernel))) (eG (by decide)) (fun _ _ _ _ _ _=>gz) (fun _ _ _ _ _ _=>(gp hu1 (ae 1) (ae 0))))) ba)))
   ax)
abbrev o6:Stmt:=top 31
abbrev Bv:List Str:=["wishes","owns","order","got","rings"]
abbrev o9:List Str:=["wishes","owns","order"]
theorem lb:FnScope Bv o9 (ar o6):=bL
abbrev Ca:FS:=(seqF (cM "dict" gN 3 (af (aJ (af (gv 4) aa) [] jO) aa) updD) aw)
def mz:FS:=(seqF (ap iH 3 (fun _=>Res.ok (D.dic []))) (seqF (db gN (aV b9 (aJ (af (gv 0) (af (gv 1) (af (gv 2) aa))) [] mw)) (aS 4) Ca) (seqF (retF gN (aJ (af (gv 3) aa) [] jP)) aw)))
def lf:List D->Res D:=fun ds=>aq false (mz (aK Bv.length ds))
theorem F6(T:Txt K mg)(A:DefAtD K mg "by_rings" o6 [Value.none])(c_rounds:Callee P w K mg base "rounds" o5 [] 7 false eU mw)(c_got_in:Callee P w K mg base "got_in" my [] 1 false [Md.bw] jO)(c_dealing_of:Callee P w K mg base "dealing_of" mO [] 1 false [Md.bw] jP):Callee P w K mg base "by_rings" o9 [] 8 false [.bw,.bw,.sh] lf:=by
 refine l8 (ds:=[]) (k:=7) (fs:=mz) (m':=gN) A lb rfl 3 rfl (fun _ _ _ _ _ _ _ us hl=>by obtain⟨u0,u1,u2,rfl⟩:=xK us hl;exact⟨_,rfl,rfl⟩) fun f cdv A outer s H g E hr=>?_;have hu1:=fG hr;have hu64:=hr.units;exact(al (d6 3 lb.nd (by rfl) (dF rfl) jH)
   (al (gm Mt rfl (kK (aX c_rounds (ah (ae 0) (ah (ae 1) (ah (ae 2) aN))))) (bW 4 lb.nd) (al (iY 3 rfl OI Ox PU A9 zb (by rfl) (eL rfl) (bz (aX c_got_in (ah (ae 4) aN)) cm))
   ax))
   (al (bg (aX c_dealing_of (ah (ae 3) aN)))
   ax)))
theorem GZ(T:Txt K mg)(A:DefAtD K mg "by_rings" o6 [Value.none])(c_rounds:Callee P w K mg base "rounds" o5 [] 7 false eU mw)(c_got_in:Callee P w K mg base "got_in" my [] 1 false [Md.bw] jO)(c_dealing_of:Callee P w K mg base "dealing_of" mO [] 1 false [Md.bw] jP):Callee P w K mg base "by_rings" o9 [Value.none] 8 false [.bw,.bw,.sh] lf:=by
 refine l8 (ds:=[Value.none]) (k:=7) (fs:=mz) (m':=gN) A lb rfl 2 rfl (fun _ _ _ _ _ _ _ us hl=>by obtain⟨u0,u1,rfl⟩:=lG us hl;exact⟨_,rfl,rfl⟩) fun f cdv A outer s H g E hr=>?_;have hu1:=fG hr;have hu64:=hr.units;exact(al (d6 3 lb.nd (by rfl) (dF rfl) jH)
   (al (gm Mt rfl (kK (aX c_rounds (ah (ae 0) (ah (ae 1) (ah (ae 2) aN))))) (bW 4 lb.nd) (al (iY 3 rfl OI Ox PU A9 zb (by rfl) (eL rfl) (bz (aX c_got_in (ah (ae 4) aN)) cm))
   ax))
   (al (bg (aX c_dealing_of (ah (ae 3) aN)))
   ax)))
abbrev tf:Stmt:=top 35
abbrev Cb:List Str:=["many","orders","number","longer","order","place"]
abbrev pO:List Str:=["many"]
theorem jQ:FnScope Cb pO (ar tf):=bL
abbrev Ce:FS:=(seqF (cM "list" j6 3 (af (f2 (f2 (ly (gv 4) (fun _=>Res.ok none) (kJ (gv 5))) (dN (af (gv 2) aa)) addE) (ly (gv 4) (kJ (gv 5)) (fun _=>Res.ok none)) addE) aa) appD) aw)
abbrev Cf:FS:=(seqF (db j6 (cj b6 (af (f2 (gv 2) (ci 1) addA) aa)) (aS 5) Ce) aw)
abbrev Cg:FS:=(seqF (ap fR 3 (dN aa)) (seqF (db j6 (aV b9 (gv 1)) (aS 4) Cf) (seqF (ap fR 1 (gv 3)) aw)))
def sY:FS:=(seqF (ap fR 1 (dN (af (dN aa) aa))) (seqF (db fR (cj b6 (af (gv 0) aa)) (aS 2) Cg) (seqF (retF fR (gv 1)) aw)))
def jj:List D->Res D:=fun ds=>aq false (sY (aK Cb.length ds))
theorem Jn(T:Txt K mg)(A:DefAt K mg "all_orders" tf):Callee P w K mg base "all_orders" pO [] 1 false [Md.bw] jj:=
 cn (m':=fR) A jQ fun f cdv A outer s H g E hr hu1=>(al (cr 1 jQ.nd (SO.toE (fH (bz (SO.toE (fH cm)) cm))))
   (al (gm Mt rfl (gG (by rfl) T.b_range (a9 (ae 0) ba)) (bW 2 jQ.nd) (al (d6 3 jQ.nd (by rfl) (dF rfl) (fH cm))
   (al (gm Mt rfl (kK (v_ 1)) (bW 4 jQ.nd) (al (gm Mt rfl (gG (by rfl) T.b_range (a9 (bE (hJ (ae 2) iB)) ba)) (bW 5 jQ.nd) (al (iY 3 rfl MT NL NM mH ou (by rfl) (eL rfl) (bz (zh (bE (zh (bE (xX (ae 4) rh (rj (ae 5)))) (SO.toB (fH (bz (v_ 2) cm))))) (bE (xX (ae 4) (rj (ae 5)) rh))) cm))
   ax))
   ax))
   (al (qI 3 rfl (cr 1 jQ.nd (v_ 3)))
   ax))))
   (al (bg (v_ 1))
   ax)))
abbrev mX:Stmt:=top 38
abbrev pV:List Str:=["wishes","dealings"]
abbrev uG:List Str:=["wishes"]
theorem Cv:FnScope pV uG (ar mX):=bL
def uC:FS:=(seqF (fF cu (aJ (af (gv 0) aa) [] qc)) (seqF (fF cu (aJ (af (gv 0) aa) [] ll)) (seqF (ap cu 1 (cU 1 [0] (aV b9 (aJ (af (fC (af (gv 0) aa) lenD) aa) [] jj)) (aS 0) (fun _=>Res.ok true) (aJ (af (gv 1) (af (fC (af (gv 0) aa) tupD) aa)) [D.non] lf))) (seqF (retF [.bw,.ow] (aJ (af (gv 1) (af (aJ (af (gv 0) aa) [] fK) aa)) [] k9)) aw))))
def pT:List D->Res D:=fun ds=>aq false (uC (aK pV.length ds))
theorem Kl(T:Txt K mg)(A:DefAt K mg "lot_of_ownings" mX)(c_refuse_unless_square:Callee P w K mg base "refuse_unless_square" uS [] 3 false [Md.bw] qc)(c_refuse_too_many_for_lots:Callee P w K mg base "refuse_too_many_for_lots" p0 [] 1 false [Md.bw] ll)(c_all_orders:Callee P w K mg base "all_orders" pO [] 1 false [Md.bw] jj)(c_by_rings':Callee P w K mg base "by_rings" o9 [Value.none] 8 false [.bw,.bw,.sh] lf)(c_things_in:Callee P w K mg base "things_in" jT [] 1 false [Md.bw] fK)(c_shares_in:Callee P w K mg base "shares_in" pF [] 3 false q0 k9):Callee P w K mg base "lot_of_ownings" uG [] 9 false [Md.bw] pT:=
 cn (m':=[.bw,.ow]) A Cv fun f cdv A outer s H g E hr hu1=>(al (i6 (aX c_refuse_unless_square (ah (ae 0) aN)))
   (al (i6 (aX c_refuse_too_many_for_lots (ah (ae 0) aN)))
   (al (mJ 1 (X:=(aQ bR P w K mg base pV "lot_of_ownings" (ar mX) f cdv A outer s H E).nox) (m:=cu) (N':=["things","wishes"]) (nl:=1) (cap:=[0]) Cv.nd rfl (by rfl) (by rfl) (eJ (osc:=(ar mX)) (ON:=pV) rfl rfl (by decide+kernel)) (gB (bE (aX c_all_orders (ah (bE (dL (by rfl) T.b_len (a9 (ae 0) ba))) aN)))) (fun _ _ _ _ _ _=>(bW 0 (show Ng (["things","wishes"]:List Str)by decide+kernel))) (eG (by decide)) (fun _ _ _ _ _ _=>gz) (fun _ _ _ _ _ _=>(yX (dvs:=[.non]) (dds:=[D.non]) c_by_rings' (hr.mono (by decide)) (ah (ae 1) (ah (bE (hU (by rfl) T.b_tuple (a9 (ae 0) ba))) aN)) (hd:=.cons rfl .nil) (hsc:=.cons .non .nil))))
   (al (bg (aX c_shares_in (ah (ae 1) (ah (bE (aX c_things_in (ah (ae 0) aN))) aN))))
   ax))))
abbrev uQ:Stmt:=top 38
abbrev CI:List Str:=["wishes","dealings"]
abbrev pQ:List Str:=["wishes"]
theorem LY:FnScope CI pQ (ar uQ):=bL
def m5:FS:=(seqF (fF cu (dP (af (gv 0) aa) [] m4)) (seqF (fF cu (dP (af (gv 0) aa) [] lp)) (fun _=>Out.stuck)))
def jW:List D->Res D:=fun ds=>aq false (m5 (aK CI.length ds))
theorem K1(T:Txt K mg)(A:DefAt K mg "lot_of_ownings" uQ)(c_refuse_unless_square_x:CalleeX P w K mg base "refuse_unless_square" uV [] 3 false [Md.bw] m4)(c_refuse_too_many_for_lots_x:CalleeX P w K mg base "refuse_too_many_for_lots" qa [] 1 false [Md.bw] lp):CalleeX P w K mg base "lot_of_ownings" pQ [] 4 false [Md.bw] jW:=by
 refine oK (k:=3) (fs:=m5) (m':=cu) A LY rfl (fun _ _ _ _ _ _ us hl=>by obtain⟨u0,rfl⟩:=nY us hl;kernel_rfl) fun f cdv A outer s H g E hr=>?_;have hu1:=fG hr;have hu64:=hr.units;exact(al (i6 (rm c_refuse_unless_square_x (hr.mono (by decide)) (ah (ae 0) aN)))
   (al (i6 (rm c_refuse_too_many_for_lots_x (hr.mono (by decide)) (ah (ae 0) aN)))
   AS))
abbrev sS:Stmt:=top 25
abbrev Bu:List Str:=["wishes","order","things","got","hand"]
abbrev sI:List Str:=["wishes","order"]
theorem pq:FnScope Bu sI (ar sS):=bL
abbrev B9:FS:=(seqF (putF gM 3 (gv 4) (aJ (af (f2 (gv 0) (gv 4) bb) (af (gv 2) aa)) [] jo)) (seqF (cM "list" gM 2 (af (f2 (gv 3) (gv 4) bb) aa) remD) aw))
def o7:FS:=(seqF (ap iH 2 (fC (af (aJ (af (gv 0) aa) [] fK) aa) jA)) (seqF (ap cL 3 (fun _=>Res.ok (D.dic []))) (seqF (db gM (aV b9 (aJ (af (gv 0) (af (gv 1) aa)) [] jm)) (aS 4) B9) (seqF (retF gM (aJ (af (gv 3) aa) [] jP)) aw))))
def mD:List D->Res D:=fun ds=>aq false (o7 (aK Bu.length ds))
theorem F5(T:Txt K mg)(A:DefAtD K mg "by_order" sS [Value.none])(c_things_in:Callee P w K mg base "things_in" jT [] 1 false [Md.bw] fK)(c_order_of:Callee P w K mg base "order_of" pc [] 6 false q0 jm)(c_best_left:Callee P w K mg base "best_left" pD [] 1 false q0 jo)(c_dealing_of:Callee P w K mg base "dealing_of" mO [] 1 false [Md.bw] jP):Callee P w K mg base "by_order" sI [] 7 false q0 mD:=by
 refine l8 (ds:=[]) (k:=6) (fs:=o7) (m':=gM) A pq rfl 2 rfl (fun _ _ _ _ _ _ _ us hl=>by obtain⟨u0,u1,rfl⟩:=lG us hl;exact⟨_,rfl,rfl⟩) fun f cdv A outer s H g E hr=>?_;have hu1:=fG hr;have hu64:=hr.units;exact(al (d6 2 pq.nd (by rfl) (dF rfl) (rF rfl (by rfl) T.b_list (by rfl) T.b_range (a9 (bE (aX c_things_in (ah (ae 0) aN))) ba)))
   (al (d6 3 pq.nd (by rfl) (dF rfl) jH)
   (al (gm Mt rfl (kK (aX c_order_of (ah (ae 0) (ah (ae 1) aN)))) (bW 4 pq.nd) (al (jE 3 hu1 rfl (by rfl) (eL rfl) (ae 4) (aX c_best_left (ah (xB hu1 (ae 0) (ae 4)) (ah (ae 2) aN))))
   (al (iY 2 rfl MT PP PySem.F.type_list_remove Jy FB (by rfl) (eL rfl) (bz (gp hu1 (ae 3) (ae 4)) cm))
   ax)))
   (al (bg (aX c_dealing_of (ah (ae 3) aN)))
   ax))))
abbrev lP:Stmt:=top 37
abbrev oa:List Str:=["wishes","dealings"]
abbrev qm:List Str:=["wishes"]
theorem zk:FnScope oa qm (ar lP):=bL
def ql:FS:=(seqF (fF cu (aJ (af (gv 0) aa) [] ll)) (seqF (ap cu 1 (cU 1 [0] (aV b9 (aJ (af (fC (af (gv 0) aa) lenD) aa) [] jj)) (aS 0) (fun _=>Res.ok true) (aJ (af (gv 1) (af (gv 0) aa)) [] mD))) (seqF (retF [.bw,.ow] (aJ (af (gv 1) (af (aJ (af (gv 0) aa) [] fK) aa)) [] k9)) aw)))
def n6:List D->Res D:=fun ds=>aq false (ql (aK oa.length ds))
theorem Dt(T:Txt K mg)(A:DefAt K mg "lot" lP)(c_refuse_too_many_for_lots:Callee P w K mg base "refuse_too_many_for_lots" p0 [] 1 false [Md.bw] ll)(c_all_orders:Callee P w K mg base "all_orders" pO [] 1 false [Md.bw] jj)(c_by_order:Callee P w K mg base "by_order" sI [] 7 false q0 mD)(c_things_in:Callee P w K mg base "things_in" jT [] 1 false [Md.bw] fK)(c_shares_in:Callee P w K mg base "shares_in" pF [] 3 false q0 k9):Callee P w K mg base "lot" qm [] 8 false [Md.bw] n6:=
 cn (m':=[.bw,.ow]) A zk fun f cdv A outer s H g E hr hu1=>(al (i6 (aX c_refuse_too_many_for_lots (ah (ae 0) aN)))
   (al (mJ 1 (X:=(aQ bR P w K mg base oa "lot" (ar lP) f cdv A outer s H E).nox) (m:=cu) (N':=["order","wishes"]) (nl:=1) (cap:=[0]) zk.nd rfl (by rfl) (by rfl) (eJ (osc:=(ar lP)) (ON:=oa) rfl rfl (by decide+kernel)) (gB (bE (aX c_all_orders (ah (bE (dL (by rfl) T.b_len (a9 (ae 0) ba))) aN)))) (fun _ _ _ _ _ _=>(bW 0 (show Ng (["order","wishes"]:List Str)by decide+kernel))) (eG (by decide)) (fun _ _ _ _ _ _=>gz) (fun _ _ _ _ _ _=>(aX c_by_order (ah (ae 1) (ah (ae 0) aN)))))
   (al (bg (aX c_shares_in (ah (ae 1) (ah (bE (aX c_things_in (ah (ae 0) aN))) aN))))
   ax)))
abbrev rH:Stmt:=top 37
abbrev zp:List Str:=["wishes","dealings"]
abbrev oO:List Str:=["wishes"]
theorem Ir:FnScope zp oO (ar rH):=bL
def rK:FS:=(seqF (fF cu (dP (af (gv 0) aa) [] lp)) (fun _=>Out.stuck))
def kS:List D->Res D:=fun ds=>aq false (rK (aK zp.length ds))
theorem D6(T:Txt K mg)(A:DefAt K mg "lot" rH)(c_refuse_too_many_for_lots_x:CalleeX P w K mg base "refuse_too_many_for_lots" qa [] 1 false [Md.bw] lp):CalleeX P w K mg base "lot" oO [] 2 false [Md.bw] kS:=by
 refine oK (k:=1) (fs:=rK) (m':=cu) A Ir rfl (fun _ _ _ _ _ _ us hl=>by obtain⟨u0,rfl⟩:=nY us hl;kernel_rfl) fun f cdv A outer s H g E hr=>?_;have hu1:=fG hr;have hu64:=hr.units;exact(al (i6 (rm c_refuse_too_many_for_lots_x (hr.mono (by decide)) (ah (ae 0) aN)))
   AS)
abbrev uO:Stmt:=top 43
abbrev CG:List Str:=["_law_drawn","_law_wanted","_law_caught","e"]
abbrev uZ:List Str:=["_law_drawn","_law_wanted"]
theorem pR:FnScope CG uZ (ar uO):=bL
def pP:FS:=(seqF (ap bq 2 (fun _=>Res.ok D.non)) (seqF (fL bq 3 jk (seqF (fF bq (dP (af (gv 1) aa) [] kS)) aw) (seqF (ap fQ 2 (gv 3)) aw)) (seqF (retF fQ (dN (af (f1 (gv 2) (cN iz)) (af (f1 (gv 2) (cN iu)) (af (f1 (gv 2) (cN iw)) aa))))) aw)))
def m6:List D->Res D:=fun ds=>aq false (pP (none::aK CG.tail.length ds))
theorem KZ(T:Txt K mg)(A:DefAt K mg "_law_refused" uO)(c_lot_x:CalleeX P w K mg base "lot" oO [] 2 false [Md.bw] kS){C_TradeError:Addr}{bm_TradeError:List b_}(xa_TradeError:XA K C_TradeError bm_TradeError)(xb_TradeError:mg "TradeError" = some (.ref C_TradeError))(hk_TradeError:kE K C_TradeError jk)(ix_ValueError:IsxOk K (.type "ValueError") iw){C_NotSquare:Addr}(xb_NotSquare:mg "NotSquare" = some (.ref C_NotSquare))(ix_NotSquare:IsxOk K (.ref C_NotSquare) iu){C_TooMany:Addr}(xb_TooMany:mg "TooMany" = some (.ref C_TooMany))(ix_TooMany:IsxOk K (.ref C_TooMany) iz):CalleeF P w K mg base "_law_refused" "lot" uZ 3 false [Md.bw] m6:=by
 refine zx (k:=2) (fs:=pP) (m':=fQ) A pR rfl (fun _ _ _ _ _ _ us hl=>by obtain⟨u0,u1,rfl⟩:=lG us hl;kernel_rfl) fun f cdv A outer s H g E hh hr=>?_;have hu1:=fG hr;have hu64:=hr.units;exact(al (cr 2 pR.nd jD)
   (al (xZ (bmT:=bm_TradeError) (m1:=bq) 3 rfl rfl rfl xb_TradeError xa_TradeError.ob xa_TradeError.be hk_TradeError (by rfl) pR.nd (by rfl) (by rfl) (by rfl) (fun _ _=>(al (i6 (At 0 hh rfl c_lot_x (hr.mono (by decide)) (ah (ae 1) aN)))
   ax)) (fun _=>(al (cr 2 pR.nd (v_ 3))
   ax)))
   (al (bg (SO.toE (fH (bz (oh xb_TooMany ix_TooMany (by rfl) (by rfl) T.b_isinstance (ae 2)) (bz (oh xb_NotSquare ix_NotSquare (by rfl) (by rfl) T.b_isinstance (ae 2)) (bz (zi (x := "ValueError") rfl T.b_ValueError ix_ValueError (by rfl) (by rfl) T.b_isinstance (ae 2)) cm))))))
   ax)))
abbrev uU:Stmt:=top 43
abbrev CK:List Str:=["_law_drawn","_law_wanted","_law_caught","e"]
abbrev vC:List Str:=["_law_drawn","_law_wanted"]
theorem pY:FnScope CK vC (ar uU):=bL
def pX:FS:=(seqF (ap bq 2 (fun _=>Res.ok D.non)) (seqF (fL bq 3 jk (seqF (fF bq (dP (af (gv 1) aa) [] jW)) aw) (seqF (ap fQ 2 (gv 3)) aw)) (seqF (retF fQ (dN (af (f1 (gv 2) (cN iz)) (af (f1 (gv 2) (cN iu)) (af (f1 (gv 2) (cN iw)) aa))))) aw)))
def jU:List D->Res D:=fun ds=>aq false (pX (none::aK CK.tail.length ds))
theorem LX(T:Txt K mg)(A:DefAt K mg "_law_refused" uU)(c_lot_of_ownings_x:CalleeX P w K mg base "lot_of_ownings" pQ [] 4 false [Md.bw] jW){C_TradeError:Addr}{bm_TradeError:List b_}(xa_TradeError:XA K C_TradeError bm_TradeError)(xb_TradeError:mg "TradeError" = some (.ref C_TradeError))(hk_TradeError:kE K C_TradeError jk)(ix_ValueError:IsxOk K (.type "ValueError") iw){C_NotSquare:Addr}(xb_NotSquare:mg "NotSquare" = some (.ref C_NotSquare))(ix_NotSquare:IsxOk K (.ref C_NotSquare) iu){C_TooMany:Addr}(xb_TooMany:mg "TooMany" = some (.ref C_TooMany))(ix_TooMany:IsxOk K (.ref C_TooMany) iz):CalleeF P w K mg base "_law_refused" "lot_of_ownings" vC 5 false [Md.bw] jU:=by
 refine zx (k:=4) (fs:=pX) (m':=fQ) A pY rfl (fun _ _ _ _ _ _ us hl=>by obtain⟨u0,u1,rfl⟩:=lG us hl;kernel_rfl) fun f cdv A outer s H g E hh hr=>?_;have hu1:=fG hr;have hu64:=hr.units;exact(al (cr 2 pY.nd jD)
   (al (xZ (bmT:=bm_TradeError) (m1:=bq) 3 rfl rfl rfl xb_TradeError xa_TradeError.ob xa_TradeError.be hk_TradeError (by rfl) pY.nd (by rfl) (by rfl) (by rfl) (fun _ _=>(al (i6 (At 0 hh rfl c_lot_of_ownings_x (hr.mono (by decide)) (ah (ae 1) aN)))
   ax)) (fun _=>(al (cr 2 pY.nd (v_ 3))
   ax)))
   (al (bg (SO.toE (fH (bz (oh xb_TooMany ix_TooMany (by rfl) (by rfl) T.b_isinstance (ae 2)) (bz (oh xb_NotSquare ix_NotSquare (by rfl) (by rfl) T.b_isinstance (ae 2)) (bz (zi (x := "ValueError") rfl T.b_ValueError ix_ValueError (by rfl) (by rfl) T.b_isinstance (ae 2)) cm))))))
   ax)))
abbrev tM:Stmt:=top 45
abbrev Cw:List Str:=["_law_wanted","_law_n","_law_m"]
abbrev uE:List Str:=["_law_wanted","_law_n","_law_m"]
theorem LS:FnScope Cw uE (ar tM):=bL
def uA:FS:=(seqF (cG cK (b8 (aP (f2 (gv 1) (ci 5) d9)) (aP (f2 (aJ (af (gv 0) aa) [] m6) (dN (af (fun _=>Res.ok (D.bl true)) (af (fun _=>Res.ok (D.bl false)) (af (fun _=>Res.ok (D.bl true)) aa)))) neD))) (seqF (retF cK (fun _=>Res.ok (D.bl false))) aw) aw) (seqF (cG cK (b8 (aP (f2 (gv 2) (gv 1) d9)) (aP (f2 (aJ (af (gv 0) aa) [] jU) (dN (af (fun _=>Res.ok (D.bl false)) (af (fun _=>Res.ok (D.bl true)) (af (fun _=>Res.ok (D.bl true)) aa)))) neD))) (seqF (retF cK (fun _=>Res.ok (D.bl false))) aw) aw) (seqF (cG cK (b8 (aP (f2 (gv 1) (ci 5) d9)) (b8 (aP (f2 (gv 2) (gv 1) eqD)) (aP (f2 (aJ (af (gv 0) aa) [] jU) (dN (af (fun _=>Res.ok (D.bl true)) (af (fun _=>Res.ok (D.bl false)) (af (fun _=>Res.ok (D.bl true)) aa)))) neD)))) (seqF (retF cK (fun _=>Res.ok (D.bl false))) aw) aw) (seqF (cG cK (b8 (aP (f2 (gv 1) (ci 6) gR)) (cP (b7 (aJ (af (gv 0) (af (aJ (af (gv 0) aa) [] n6) (af (gv 1) (af (gv 2) aa)))) [] mU)))) (seqF (retF cK (fun _=>Res.ok (D.bl false))) aw) aw) (seqF (retF cK (jr (f2 (gv 1) (ci 5) d9) (jr (f2 (gv 2) (gv 1) d9) (aJ (af (gv 0) (af (aJ (af (gv 0) aa) [] pT) (af (gv 1) (af (gv 2) aa)))) [] mU)))) aw)))))
def mT:List D->Res D:=fun ds=>aq false (uA (aK Cw.length ds))
theorem Kj(T:Txt K mg)(A:DefAt K mg "_law_both_well" tM)(c__law_refused_lot:CalleeF P w K mg base "_law_refused" "lot" uZ 3 false [Md.bw] m6)(c_lot_x:CalleeX P w K mg base "lot" oO [] 2 false [Md.bw] kS)(c__law_refused_lot_of_ownings:CalleeF P w K mg base "_law_refused" "lot_of_ownings" vC 5 false [Md.bw] jU)(c_lot_of_ownings_x:CalleeX P w K mg base "lot_of_ownings" pQ [] 4 false [Md.bw] jW)(c_lot:Callee P w K mg base "lot" qm [] 8 false [Md.bw] n6)(c__law_like_well:Callee P w K mg base "_law_like_well" uF [] 1 false [.bw,.bw,.sh,.bw] mU)(c_lot_of_ownings:Callee P w K mg base "lot_of_ownings" uG [] 9 false [Md.bw] pT):Callee P w K mg base "_law_both_well" uE [] 10 false cK mT:=
 cn (m':=cK) A LS fun f cdv A outer s H g E hr hu1=>have hu64:=hr.units;(al (bp (SW.toQ (iT (eQ (ae 1) iB) (jJ (gK hu64 (bE (rO c__law_refused_lot (hr.mono (by decide)) (ah (ae 0) aN) (hy:=kl c_lot_x))) (SO.toB (fH (bz bZ (bz bZ (bz bZ cm))))))))) (al (bg bZ)
   ax)
   ax)
   (al (bp (SW.toQ (iT (eQ (ae 2) (ae 1)) (jJ (gK hu64 (bE (rO c__law_refused_lot_of_ownings (hr.mono (by decide)) (ah (ae 0) aN) (hy:=kl c_lot_of_ownings_x))) (SO.toB (fH (bz bZ (bz bZ (bz bZ cm))))))))) (al (bg bZ)
   ax)
   ax)
   (al (bp (SW.toQ (iT (eQ (ae 1) iB) (iT (dS hu64 (ae 2) (ae 1)) (jJ (gK hu64 (bE (rO c__law_refused_lot_of_ownings (hr.mono (by decide)) (ah (ae 0) aN) (hy:=kl c_lot_of_ownings_x))) (SO.toB (fH (bz bZ (bz bZ (bz bZ cm)))))))))) (al (bg bZ)
   ax)
   ax)
   (al (bp (SW.toQ (iT (iG (ae 1) iB) (jJ (jB (ik (bE (aX c__law_like_well (ah (ae 0) (ah (bE (aX c_lot (ah (ae 0) aN))) (dE (v_ 1) (ah (ae 2) aN))))))))))) (al (bg bZ)
   ax)
   ax)
   (al (bg (nc (ng (ae 1) iB) (nc (ng (ae 2) (ae 1)) (oi (aX c__law_like_well (ah (ae 0) (ah (bE (aX c_lot_of_ownings (ah (ae 0) aN))) (dE (v_ 1) (ah (ae 2) aN)))))))))
   ax)))))
abbrev sR:Stmt:=top 41
abbrev Bt:List Str:=["_law_cell_here","_law_m","_law_row_here","_law_thing"]
abbrev sH:List Str:=["_law_cell_here","_law_m"]
theorem pk:FnScope Bt sH (ar sR):=bL
abbrev B8:FS:=(seqF (cM "list" gL 2 (af (f2 (gv 0) (f2 (gv 3) (ci 1) addA) bi) (af (gv 3) aa)) insD) (seqF (ap gL 0 (f2 (gv 0) (f2 (gv 3) (ci 1) addA) iR)) aw))
def sE:FS:=(seqF (ap [.sh,.bw,.sh,.sh] 2 (dN aa)) (seqF (db gL (cj b6 (af (gv 1) aa)) (aS 3) B8) (seqF (retF gL (fC (af (gv 2) aa) tupD)) aw)))
def mB:List D->Res D:=fun ds=>aq false (sE (aK Bt.length ds))
theorem GM(T:Txt K mg)(A:DefAt K mg "_law_row" sR):Callee P w K mg base "_law_row" sH [] 1 false [.sh,.bw] mB:=
 cn (m':=gL) A pk fun f cdv A outer s H g E hr hu1=>(al (d6 2 pk.nd (by rfl) (dF rfl) (fH cm))
   (al (gm Mt rfl (gG (by rfl) T.b_range (a9 (ae 1) ba)) (bW 3 pk.nd) (al (iY 2 rfl MT PN PySem.F.type_list_insert Jx E6 (by rfl) (eL rfl) (bz (fI (ae 0) (bE (hJ (ae 3) iB))) (bz (v_ 3) cm)))
   (al (cr 0 pk.nd (oG (ae 0) (bE (hJ (ae 3) iB))))
   ax)))
   (al (bg (hU (by rfl) T.b_tuple (a9 (ae 2) ba)))
   ax)))
abbrev sA:Stmt:=top 40
abbrev BU:List Str:=["_law_script","_law_k","_law_cell_here","_law_stirred"]
abbrev pC:List Str:=["_law_script","_law_k"]
theorem pJ:FnScope BU pC (ar sA):=bL
def pw:FS:=(seqF (ap bq 2 (ci 0)) (seqF (cG bq (aP (f2 (gv 1) (fC (af (gv 0) aa) lenD) gR)) (seqF (ap bq 2 (f2 (f2 (gv 0) (gv 1) bb) (f2 (ci 10) (ci 60) gQ) bi)) aw) aw) (seqF (cG bq (b8 (aP (f2 (fC (af (gv 0) aa) lenD) (ci 0) d9)) (aP (f2 (f2 (f2 (gv 0) (ci 0) bb) (ci 2) bi) (ci 0) eqD))) (seqF (retF bq (gv 2)) aw) aw) (seqF (ap bq 3 (f2 (f2 (f2 (f2 (f2 (f2 (f2 (gv 2) (f2 (f2 (ci 7) (gv 1) cF) (gv 1) cF) addA) (f2 (ci 13) (gv 1) cF) addA) (ci 5) addA) (ci 48271) cF) (ci 2147483647) bi) (ci 69621) cF) (ci 1000000007) bi)) (seqF (retF bq (f2 (f2 (f2 (f2 (f2 (gv 3) (ci 1) addA) (ci 40692) cF) (ci 2147483629) bi) (ci 39373) cF) (ci 999999937) bi)) aw)))))
def gH:List D->Res D:=fun ds=>aq false (pw (aK BU.length ds))
theorem GX(T:Txt K mg)(A:DefAt K mg "_law_cell" sA):Callee P w K mg base "_law_cell" pC [] 1 false q0 gH:=
 cn (m':=bq) A pJ fun f cdv A outer s H g E hr hu1=>have hu64:=hr.units;(al (cr 2 pJ.nd lM)
   (al (bp (iG (ae 1) (bE (dL (by rfl) T.b_len (a9 (ae 0) ba)))) (al (cr 2 pJ.nd (fI (xB hu1 (ae 0) (ae 1)) (bE (DO iB iB))))
   ax)
   ax)
   (al (bp (SW.toQ (iT (eQ (bE (dL (by rfl) T.b_len (a9 (ae 0) ba))) iB) (jJ (dS hu64 (bE (fI (xB hu1 (ae 0) iB) iB)) iB)))) (al (bg (v_ 2))
   ax)
   ax)
   (al (cr 3 pJ.nd (fI (bE (jC (bE (fI (bE (jC (bE (hJ (bE (hJ (bE (hJ (ae 2) (bE (jC (bE (jC iB (ae 1))) (ae 1))))) (bE (jC iB (ae 1))))) iB)) iB)) iB)) iB)) iB))
   (al (bg (fI (bE (jC (bE (fI (bE (jC (bE (hJ (ae 3) iB)) iB)) iB)) iB)) iB))
   ax)))))
abbrev mP:Stmt:=top 42
abbrev pH:List Str:=["_law_script","_law_at","_law_n","_law_m"]
abbrev tV:List Str:=["_law_script","_law_at","_law_n","_law_m"]
theorem Cm:FnScope pH tV (ar mP):=bL
def tT:FS:=(seqF (retF fT (fC (af (cU 1 [3,0,1] (cj b6 (af (gv 2) aa)) (aS 0) (fun _=>Res.ok true) (aJ (af (aJ (af (gv 2) (af (f2 (gv 3) (gv 0) addA) aa)) [] gH) (af (gv 1) aa)) [] mB)) aa) tupD)) aw)
def pL:List D->Res D:=fun ds=>aq false (tT (aK pH.length ds))
theorem IE(T:Txt K mg)(A:DefAt K mg "_law_wishes" mP)(c__law_cell:Callee P w K mg base "_law_cell" pC [] 1 false q0 gH)(c__law_row:Callee P w K mg base "_law_row" sH [] 1 false [.sh,.bw] mB):Callee P w K mg base "_law_wishes" tV [] 2 false fT pL:=
 cn (m':=fT) A Cm fun f cdv A outer s H g E hr hu1=>(al (bg (hU (by rfl) T.b_tuple (a9 (SO.toB (g9 (X:=(aQ bR P w K mg base pH "_law_wishes" (ar mP) f cdv A outer s H E).nox) (N':=["_law_hand","_law_m","_law_script","_law_at"]) (nl:=1) (cap:=[3,0,1]) Cm.nd rfl (eJ (osc:=(ar mP)) (ON:=pH) rfl rfl (by decide+kernel)) (gu.toC (gG (by rfl) T.b_range (a9 (ae 2) ba))) (fun _ _ _ _ _ _=>(bW 0 (show Ng (["_law_hand","_law_m","_law_script","_law_at"]:List Str)by decide+kernel))) (eG (by decide)) (fun _ _ _ _ _ _=>gz) (fun _ _ _ _ _ _=>(aX c__law_row (dE (aX c__law_cell (ah (ae 2) (ah (bE (hJ (ae 3) (ae 0))) aN))) (ah (ae 1) aN)))))) ba)))
   ax)
abbrev lO:Stmt:=top 46
abbrev n9:List Str:=["_law_script","_law_n","_law_m","_law_wanted","_law_way"]
abbrev xE:List Str:=["_law_script"]
theorem jK:FnScope n9 xE (ar lO):=bL
def nZ:FS:=(seqF (ap j5 1 (f2 (ci 2) (f2 (aJ (af (gv 0) (af (ci 1) aa)) [] gH) (ci 6) bi) addA)) (seqF (ap j5 2 (f2 (gv 1) (f2 (f2 (aJ (af (gv 0) (af (ci 1) aa)) [] gH) (ci 6) iR) (f2 (ci 9) (gv 1) j1) bi) addA)) (seqF (ap j5 3 (fC (af (aJ (af (gv 0) (af (ci 2) (af (gv 1) (af (gv 2) aa)))) [] pL) aa) jy)) (seqF (ap dU 4 (f2 (f2 (aJ (af (gv 0) (af (ci 1) aa)) [] gH) (ci 60) iR) (ci 3) bi)) (seqF (cG dU (aP (f2 (gv 4) (ci 0) eqD)) (seqF (ap dU 3 (cU 1 [3] (aV b9 (gv 3)) (aS 0) (fun _=>Res.ok true) (f2 (gv 1) (ci 0) bb))) aw) aw) (seqF (cG dU (aP (f2 (gv 4) (ci 1) eqD)) (seqF (putF dU 3 (f2 (aJ (af (gv 0) (af (ci 9) aa)) [] gH) (gv 1) bi) (f2 (gv 3) (f2 (f2 (aJ (af (gv 0) (af (ci 9) aa)) [] gH) (ci 7) iR) (gv 1) bi) bb)) aw) aw) (seqF (retF dU (aJ (af (fC (af (gv 3) aa) tupD) (af (gv 1) (af (gv 2) aa))) [] mT)) aw)))))))
def qk:List D->Res D:=fun ds=>aq false (nZ (aK n9.length ds))
theorem Ds(T:Txt K mg){fa:Addr}{fd:M5}(A:Fun K "law" "law" lO fa fd)(c__law_cell:Callee P w K mg base "_law_cell" pC [] 1 false q0 gH)(c__law_wishes:Callee P w K mg base "_law_wishes" tV [] 2 false fT pL)(c__law_both_well:Callee P w K mg base "_law_both_well" uE [] 10 false cK mT):FnOk P w K mg base bR 11 fa fd xE (hV K false [Md.sh] qk):=by
 refine yH (k:=10) (fs:=nZ) (m':=dU) A jK rfl fun cdv A outer s H g E hr=>?_;have hu1:=fG hr;have hu64:=hr.units;exact(al (cr 1 jK.nd (hJ iB (bE (fI (bE (aX c__law_cell (ah (ae 0) (ah iB aN)))) iB))))
   (al (cr 2 jK.nd (hJ (ae 1) (bE (fI (bE (oG (bE (aX c__law_cell (ah (ae 0) (ah iB aN)))) iB)) (bE (DR iB (ae 1)))))))
   (al (d6 3 jK.nd (by rfl) (dF rfl) (yR (by rfl) T.b_list (a9 (bE (aX c__law_wishes (ah (ae 0) (ah iB (ah (ae 1) (ah (ae 2) aN)))))) ba)))
   (al (cr 4 jK.nd (fI (bE (oG (bE (aX c__law_cell (ah (ae 0) (ah iB aN)))) iB)) iB))
   (al (bp (dS hu64 (ae 4) iB) (al (d6 3 jK.nd (by rfl) (dF rfl) (g9 (X:=(aQ bR P w K mg base n9 "law" (ar lO) fa cdv A outer s H E).nox) (N':=["_law_row_here","_law_wanted"]) (nl:=1) (cap:=[3]) jK.nd rfl (eJ (osc:=(ar lO)) (ON:=n9) rfl rfl (by decide+kernel)) (gB (ae 3)) (fun _ _ _ _ _ _=>(bW 0 (show Ng (["_law_row_here","_law_wanted"]:List Str)by decide+kernel))) (eG (by decide)) (fun _ _ _ _ _ _=>gz) (fun _ _ _ _ _ _=>(gp hu1 (ae 1) iB))))
   ax)
   ax)
   (al (bp (dS hu64 (ae 4) iB) (al (jE 3 hu1 rfl (by rfl) (eL rfl) (bE (fI (bE (aX c__law_cell (ah (ae 0) (ah iB aN)))) (ae 1))) (gp hu1 (ae 3) (bE (fI (bE (oG (bE (aX c__law_cell (ah (ae 0) (ah iB aN)))) iB)) (ae 1)))))
   ax)
   ax)
   (al (bg (aX c__law_both_well (ah (bE (hU (by rfl) T.b_tuple (a9 (ae 3) ba))) (dE (v_ 1) (ah (ae 2) aN)))))
   ax)))))))
end Law
namespace Law
open PySem L2 DL
abbrev nD(k:Nat):D:=.int (k:Int)
abbrev LN(l:List Nat):D:=.lst (l.map nD)
abbrev TN(l:List Nat):D:=.tup (l.map nD)
def oD:Option Nat->D
|none=>.non
|some k=>nD k
abbrev WD(rz:List (List Nat)):D:=.tup (rz.map TN)
abbrev OD(oz:List (Option Nat)):D:=.tup (oz.map oD)
theorem eO{ds:List D}(h:ds.length<=1000):sz ds=some ds:=DT (MI h (by rw[MU];decide))
@[simp] theorem addA_int(a b:Int):addA (.int a) (.int b)=some (.int (a+b)):=rfl
theorem GG{a b:Int}(h:fg a b):cF (.int a) (.int b)=some (.int (a*b)):=by rw[cF,intsC_int,if_pos h]
theorem rE{a b:Int}(h:0<b):bi (.int a) (.int b)=some (.int (a%b)):=by rw[bi,intsC_int,if_pos h]
theorem HI{a b:Int}(h:gj a b):iR (.int a) (.int b)=some (.int (a/b)):=by rw[iR,intsC_int,if_pos h]
theorem av{s1 s2:FS}{r r':aj}(h:s1 r=.nx r'):seqF s1 s2 r=s2 r':=by unfold seqF;rw[h]
theorem bh{s1 s2:FS}{r:aj}{d:D}(h:s1 r=.rt d):seqF s1 s2 r=.rt d:=by unfold seqF;rw[h]
theorem bN{m:List Md}{i:Nat}{f:FE}{r:aj}{d:D}(h:f r=.ok d):ap m i f r=.nx (r.set i (some d)):=by unfold ap;rw[h];rfl
theorem bJ{m:List Md}{f:FE}{r:aj}{d:D}(h:f r=.ok d):retF m f r=.rt d:=by unfold retF;rw[h];rfl
theorem kL{m:List Md}{p:FQ}{s1 s2:FS}{r:aj}{b:Bool}(h:p r=.ok b):cG m p s1 s2 r=if b=true then s1 r else s2 r:=by unfold cG;rw[h];rfl
theorem dY{m:List Md}{p:FQ}{s1 s2:FS}{r:aj}(h:p r=.ok true):cG m p s1 s2 r=s1 r:=by rw[kL h,if_pos rfl]
theorem bP{m:List Md}{p:FQ}{s1 s2:FS}{r:aj}(h:p r=.ok false):cG m p s1 s2 r=s2 r:=by rw[kL h,if_neg i_]
theorem wW{p:FQ}{f f':FE}{r:aj}(h:p r=.ok true):jt p f f' r=f r:=by unfold jt;rw[h];rfl
theorem wV{p:FQ}{f f':FE}{r:aj}(h:p r=.ok false):jt p f f' r=f' r:=by unfold jt;rw[h];rfl
theorem lW{fl:aj->Res (List D)}{r:aj}{ds:List D}(h:fl r=.ok ds)(hl:ds.length<=1000):iI fl r=.ok (.tup ds):=by unfold iI;rw[h,bind_ok,eO hl];rfl
theorem gy{fl:aj->Res (List D)}{r:aj}{ds:List D}(h:fl r=.ok ds)(hl:ds.length<=1000):dN fl r=.ok (.lst ds):=by unfold dN;rw[h,bind_ok,eO hl];rfl
theorem oP{ds:List D}{d:D}(h:ds.length<=1000):appD (.lst ds) [d]=some (.lst (ds++[d])):=by show(if ds.length<sizeLine then some (D.lst (ds++[d]))else none)=_;rw[if_pos (by rw[MU];omega)]
theorem aT{fl:aj->Res (List D)}{dds zs:List D}{F:List D->Res D}{r:aj}{d:D}(h1:fl r=.ok zs)(h2:F (zs++dds)=.ok d):aJ fl dds F r=.ok d:=by unfold aJ;rw[h1,bind_ok,h2];rfl
theorem qr{f:FE}{k:D->Option D}{r:aj}{a d:D}(h1:f r=.ok a)(h2:k a=some d):f1 f k r=.ok d:=by unfold f1;rw[h1,bind_ok,h2];rfl
theorem ay{f f':FE}{k:D->D->Option D}{r:aj}{a b d:D}(h1:f r=.ok a)(h2:f' r=.ok b)(h3:k a b=some d):f2 f f' k r=.ok d:=by unfold f2;rw[h1,bind_ok,h2,bind_ok,h3];rfl
theorem bM{fl:aj->Res (List D)}{k:List D->Option D}{r:aj}{ds:List D}{d:D}(h1:fl r=.ok ds)(h2:k ds=some d):fC fl k r=.ok d:=by unfold fC;rw[h1,bind_ok,h2];rfl
theorem ak{f:FE}{fl:aj->Res (List D)}{r:aj}{d:D}{ds:List D}(h1:f r=.ok d)(h2:fl r=.ok ds):af f fl r=.ok (d::ds):=by unfold af;rw[h1,bind_ok,h2];rfl
theorem ao{r:aj}:aa r=.ok []:=rfl
theorem ce{f:FE}{r:aj}{b:Bool}(h:f r=.ok (.bl b)):aP f r=.ok b:=by unfold aP;rw[h];rfl
theorem gE{f:FE}{r:aj}{d:D}{b:Bool}(h:f r=.ok d)(h2:fN d=some b):b7 f r=.ok b:=by unfold b7;rw[h,bind_ok,h2];rfl
theorem jd{p:FQ}{r:aj}{b:Bool}(h:p r=.ok b):cP p r=.ok (! b):=by unfold cP;rw[h];rfl
theorem il{p q:FQ}{r:aj}(h:p r=.ok true):b8 p q r=q r:=by unfold b8;rw[h];rfl
theorem iW{p q:FQ}{r:aj}(h:p r=.ok false):b8 p q r=.ok false:=by unfold b8;rw[h];rfl
theorem ke{p q:FQ}{r:aj}(h:p r=.ok false):js p q r=q r:=by unfold js;rw[h];rfl
theorem zd{f f':FE}{r:aj}(h:f r=.ok (.bl true)):eM f f' r=f' r:=by unfold eM;rw[h];rfl
theorem d7{m:List Md}{fi:FI}{ft:FT}{b:FS}{r:aj}{ds:List D}(h:fi r=.ok ds):db m fi ft b r=aF ft b ds r:=by unfold db;rw[h];rfl
theorem jL{f:FE}{r:aj}{d:D}{ds:List D}(h:f r=.ok d)(h2:b9 d=some ds):aV b9 f r=.ok ds:=by unfold aV;rw[h,bind_ok,h2];rfl
theorem eI{ft:FT}{b:FS}{r:aj}:aF ft b [] r=.nx r:=by unfold aF;rfl
theorem eF{ft:FT}{b:FS}{r r1 r':aj}{d:D}{ds:List D}(h1:ft d r=some r1)(h2:b r1=.nx r'):aF ft b (d::ds) r=aF ft b ds r':=by
 conv=>lhs;unfold aF
 simp only[h1,h2]
theorem DF{ft:FT}{b:FS}{r r1:aj}{d v:D}{ds:List D}(h1:ft d r=some r1)(h2:b r1=.rt v):aF ft b (d::ds) r=.rt v:=by
 conv=>lhs;unfold aF
 simp only[h1,h2]
theorem rR{m:List Md}{p:FQ}{b:FS}{n:Nat}{r:aj}(h:p r=.ok false):dm m p b (n+1) r=.nx r:=by unfold dm;rw[h];rfl
theorem rS{m:List Md}{p:FQ}{b:FS}{n:Nat}{r r':aj}(h:p r=.ok true)(h2:b r=.nx r'):dm m p b (n+1) r=dm m p b n r':=by
 conv=>lhs;unfold dm
 rw[h,onE_ok,if_pos rfl,h2]
theorem jG{T:String}{m:List Md}{i:Nat}{fl:aj->Res (List D)}{mk:D->List D->Option D}{r:aj}{d d':D}{ds:List D}(h1:r[i]? = some (some d))(h2:qe T d=true)(h3:fl r=.ok ds)(h4:mk d ds=some d'):cM T m i fl mk r=.nx (r.set i (some d')):=by unfold cM;rw[h1];simp only[h2,if_true,h3,onE_ok,h4]
theorem jI{m:List Md}{i:Nat}{fk fv:FE}{r:aj}{d k v d':D}(h1:r[i]? = some (some d))(h2:fv r=.ok v)(h3:fk r=.ok k)(h4:dA d k v=some d'):DL.putF m i fk fv r=.nx (r.set i (some d')):=by unfold DL.putF;rw[h2,onE_ok];simp only[h1,h3,onE_ok,h4]
theorem GQ{fa fb fc:FE}{k k':D->D->Option D}{r:aj}{x y w d:D}(h1:fa r=.ok x)(h2:fb r=.ok y)(h3:k x y=some (.bl true))(h4:fc r=.ok w)(h5:k' y w=some d):lQ fa fb fc k k' r=.ok d:=by unfold lQ;rw[h1,bind_ok,h2,bind_ok,h3,opt_some,bind_ok];show(fc r).bind _=_;rw[h4,bind_ok,h5];rfl
theorem JO{ft:FT}{q:FQ}{fe:FE}{r0:aj}:eu ft q fe r0 []=.ok []:=by unfold eu;rfl
theorem Bn{ft:FT}{q:FQ}{fe:FE}{r0:aj}{α:Type}(e:α->D)(keep:α->Bool)(g:α->D):∀(l:List α),(∀a∈l,∃r1,ft (e a) r0=some r1/\q r1=.ok (keep a)/\(keep a=true->fe r1=.ok (g a)))->eu ft q fe r0 (l.map e)=.ok ((l.filter keep).map g)
|[],_=>JO
|a::l,h=>by
  obtain⟨r1,h1,h2,h3⟩:=h a e_;have ih:=Bn (ft:=ft) (q:=q) (fe:=fe) (r0:=r0) e keep g l fun b hb=>h b (c_ _ hb);rw[G_]
  conv=>lhs;unfold eu
  rw[h1,opt_some,bind_ok,h2,bind_ok];cases k:keep a with
 |true=>rw[if_pos rfl,h3 k,bind_ok,ih,bind_ok,ME,if_pos k];rfl
 |false=>rw[if_neg i_,ih,ME,if_neg (by rw[k];exact i_)]
theorem jg{nl:Nat}{cap:List Nat}{fi:FI}{ft:FT}{q:FQ}{fe:FE}{r:aj}{α:Type}{l:List α}(e:α->D)(keep:α->Bool)(g:α->D)(h1:fi r=.ok (l.map e))(hl:l.length<=1000)(h:∀a∈l,∃r1,ft (e a) (a8 nl cap r)=some r1/\q r1=.ok (keep a)/\(keep a=true->fe r1=.ok (g a))):cU nl cap fi ft q fe r=.ok (.lst ((l.filter keep).map g)):=by unfold cU;rw[h1,bind_ok,eO (by simpa using hl),opt_some,bind_ok,Bn e keep g l h,noXL_ok,bind_ok]
theorem Dc(k:Nat):wA (.int 0) (nD k)=some (.bl true):=by show some (D.bl (decide ((0:Int)<=(k:Int))))=_;rw[decide_eq_true (N4 k)]
theorem lH(a b:Nat):gR (nD a) (nD b)=some (.bl (decide (a<b))):=by show some (D.bl (decide ((a:Int)<(b:Int))))=_;simp only[Tl]
theorem g4(a b:Nat):d9 (nD a) (nD b)=some (.bl (decide (b<a))):=by show some (D.bl (decide ((b:Int)<(a:Int))))=_;simp only[Tl]
theorem iX(a b:Nat):eqD (nD a) (nD b)=some (.bl (decide (a=b))):=by
 unfold eqD;rw[eqB_int];show some (D.bl ((a:Int)==(b:Int)))=_;have:((a:Int)==(b:Int))=decide (a=b):=by rw[Ms,beq_iff_eq,decide_eq_true_iff];exact OY
 rw[this]
theorem De(a b:Nat):neD (nD a) (nD b)=some (.bl (! decide (a=b))):=by
 unfold neD;rw[eqB_int];show some (D.bl (!((a:Int)==(b:Int))))=_;have:((a:Int)==(b:Int))=decide (a=b):=by rw[Ms,beq_iff_eq,decide_eq_true_iff];exact OY
 rw[this]
theorem b5{B:FS}{n:Nat}{ds:List D}{d:D}(h:B (aK n ds)=.rt d):aq false (B (aK n ds))=.ok d:=by rw[h];rfl
abbrev kI(k:Nat):au:=Sum.inl (k:Int)
theorem yK(kvs:List (Nat×D))(k:Nat):cO (kvs.map fun p=>(kI p.1,p.2)) (kI k)=decide (k∈kvs.map (·.1)):=by
 unfold cO;rw[Qo,Ms,P7,decide_eq_true_iff,q_];constructor
 .rintro⟨p,h1,h2⟩
  refine⟨p,h1,?_⟩;simp only[MR,decide_eq_true_eq]at h2;have:((p.1:Nat):Int)=(k:Int):=RE h2;exact Int.ofNat.inj this
 .rintro⟨p,h1,rfl⟩
  exact⟨p,h1,by simp⟩
theorem IZ(kvs:List (Nat×D))(k:Nat)(d:D)(h:k∉kvs.map (·.1)):cz (kvs.map fun p=>(kI p.1,p.2)) (kI k) d=(kvs++[(k,d)]).map fun p=>(kI p.1,p.2):=by unfold cz;have e:((kvs.map fun p=>(kI p.1,p.2)).any fun kv=>decide (kv.1=kI k))=decide (k∈kvs.map (·.1)):=yK kvs k;rw[e,decide_eq_false h,if_neg i_,MN];rfl
@[simp] theorem e_seq(s1 s2:FS)(r:aj):seqF s1 s2 r=(match s1 r with|.nx r'=>s2 r'|o=>o):=rfl
@[simp] theorem e_skip(r:aj):aw r=.nx r:=rfl
@[simp] theorem e_set(m:List Md)(i:Nat)(f:FE)(r:aj):ap m i f r=onE m r (f r) fun d=>.nx (r.set i (some d)):=rfl
@[simp] theorem e_ret(m:List Md)(f:FE)(r:aj):retF m f r=onE m r (f r) fun d=>.rt d:=rfl
@[simp] theorem e_if(m:List Md)(p:FQ)(s1 s2:FS)(r:aj):cG m p s1 s2 r=onE m r (p r) fun c=>if c=true then s1 r else s2 r:=rfl
@[simp] theorem e_getV(r:aj)(i:Nat):dI r i=(match r[i]? with|some (some d)=>.ok d|_=>.stuck):=rfl
@[simp] theorem e_f1(f:FE)(k:D->Option D)(r:aj):f1 f k r=(f r).bind fun d=>bK (k d):=rfl
@[simp] theorem e_f2(f f':FE)(k:D->D->Option D)(r:aj):f2 f f' k r=(f r).bind fun a=>(f' r).bind fun b=>bK (k a b):=rfl
@[simp] theorem e_fC(fl:aj->Res (List D))(k:List D->Option D)(r:aj):fC fl k r=(fl r).bind fun ds=>bK (k ds):=rfl
@[simp] theorem e_lN(r:aj):aa r=.ok []:=rfl
@[simp] theorem e_lC(f:FE)(fl:aj->Res (List D))(r:aj):af f fl r=(f r).bind fun d=>(fl r).bind fun ds=>.ok (d::ds):=rfl
@[simp] theorem e_test(f:FE)(r:aj):aP f r=(f r).bind fun d=>bK (gU d):=rfl
@[simp] theorem e_tru(f:FE)(r:aj):b7 f r=(f r).bind fun d=>bK (fN d):=rfl
@[simp] theorem e_not(p:FQ)(r:aj):cP p r=(p r).bind fun c=>.ok (! c):=rfl
@[simp] theorem e_and(p q:FQ)(r:aj):b8 p q r=(p r).bind fun c=>if c=true then q r else .ok false:=rfl
@[simp] theorem e_or(p q:FQ)(r:aj):js p q r=(p r).bind fun c=>if c=true then .ok true else q r:=rfl
@[simp] theorem e_vand(f f':FE)(r:aj):eM f f' r=(f r).bind fun d=>(bK (gU d)).bind fun c=>if c=true then f' r else .ok (.bl false):=rfl
@[simp] theorem e_vor(f f':FE)(r:aj):jr f f' r=(f r).bind fun d=>(bK (gU d)).bind fun c=>if c=true then .ok (.bl true)else f' r:=rfl
@[simp] theorem e_vnot(f:FE)(r:aj):jX f r=(f r).bind fun d=>(bK (gU d)).bind fun c=>.ok (.bl (! c)):=rfl
@[simp] theorem e_fIf(p:FQ)(f f':FE)(r:aj):jt p f f' r=(p r).bind fun c=>if c=true then f r else f' r:=rfl
@[simp] theorem e_call(fl:aj->Res (List D))(dds:List D)(F:List D->Res D)(r:aj):aJ fl dds F r=(fl r).bind fun ds=>lx (F (ds++dds)):=rfl
@[simp] theorem e_asB(b:Bool):gU (.bl b)=some b:=rfl
@[simp] theorem e_truB(b:Bool):fN (.bl b)=some b:=rfl
@[simp] theorem e_truL(ds:List D):fN (.lst ds)=some (! ds.isEmpty):=rfl
@[simp] theorem e_loop(m:List Md)(fi:FI)(ft:FT)(b:FS)(r:aj):db m fi ft b r=onE m r (fi r) fun ds=>aF ft b ds r:=rfl
@[simp] theorem e_fSeq(k:D->Option (List D))(f:FE)(r:aj):aV k f r=(f r).bind fun d=>bK (k d):=rfl
@[simp] theorem e_asL(ds:List D):b9 (.lst ds)=some ds:=rfl
@[simp] theorem e_asT(ds:List D):b9 (.tup ds)=some ds:=rfl
@[simp] theorem e_mkT(fl:aj->Res (List D))(r:aj):iI fl r=(fl r).bind fun ds=>(bK (sz ds)).bind fun ds=>.ok (.tup ds):=rfl
@[simp] theorem e_mkL(fl:aj->Res (List D))(r:aj):dN fl r=(fl r).bind fun ds=>(bK (sz ds)).bind fun ds=>.ok (.lst ds):=rfl
@[simp] theorem e_sz0:sz []=some []:=eO (by simp)
@[simp] theorem e_sz1(a:D):sz [a]=some [a]:=eO (by simp)
@[simp] theorem e_sz2(a b:D):sz [a,b]=some [a,b]:=eO (by simp)
@[simp] theorem e_sz3(a b c:D):sz [a,b,c]=some [a,b,c]:=eO (by simp)
@[simp] theorem e_lenL(ds:List D):lenD [.lst ds]=some (.int ds.length):=rfl
@[simp] theorem e_lenT(ds:List D):lenD [.tup ds]=some (.int ds.length):=rfl
@[simp] theorem e_lenK(ds:List (au×D)):lenD [.dic ds]=some (.int ds.length):=rfl
@[simp] theorem e_tupL(ds:List D):tupD [.lst ds]=some (.tup ds):=rfl
@[simp] theorem e_listL(ds:List D):jy [.lst ds]=some (.lst ds):=rfl
@[simp] theorem e_listT(ds:List D):jy [.tup ds]=some (.lst ds):=rfl
@[simp] theorem e_isNN:kj .non .non=some (.bl true):=rfl
@[simp] theorem e_isLN(ds:List D):kj (.lst ds) .non=some (.bl false):=rfl
@[simp] theorem e_isn1:eY .non .non=some (.bl false):=rfl
@[simp] theorem e_isn2(i:Int):eY (.int i) .non=some (.bl true):=rfl
@[simp] theorem e_isn3(ds:List D):eY (.tup ds) .non=some (.bl true):=rfl
@[simp] theorem e_valsD(kvs:List (au×D)):qN (.dic kvs)=some (.lst (kvs.map (·.2))):=rfl
theorem ij{ds:List D}{i:Nat}{d:D}(h:ds[i]? = some d):bb (.tup ds) (nD i)=some d:=by have hl:i<ds.length:=(h_.mp h).1;show eh ds (i:Int)=some d;unfold eh fV;rw[if_pos (N4 i),if_pos (by omega)];simpa using h
theorem qz{ds:List D}{i:Nat}{d:D}(h:ds[i]? = some d):bb (.lst ds) (nD i)=some d:=by have hl:i<ds.length:=(h_.mp h).1;show eh ds (i:Int)=some d;unfold eh fV;rw[if_pos (N4 i),if_pos (by omega)];simpa using h
@[simp] theorem ixA_L0(d:D)(ds:List D):bb (.lst (d::ds)) (.int 0)=some d:=qz (i:=0) rfl
@[simp] theorem ixA_T0(d:D)(ds:List D):bb (.tup (d::ds)) (.int 0)=some d:=ij (i:=0) rfl
theorem qy{kvs:List (au×D)}{k:Nat}{d:D}(h:bc kvs (kI k)=some d):bb (.dic kvs) (nD k)=some d:=h
theorem nO(l:List Nat)(k:Nat):(l.map nD).any (fun y=>eqs y (nD k))=decide (k∈l):=by
 rw[Qo,Ms,P7,decide_eq_true_iff];constructor
 .rintro⟨x,h1,h2⟩
  have:(((x:Nat):Int)==(k:Int))=true:=h2;have:=OY.mp (No this);subst this;exact h1
 .intro h;exact⟨k,h,by show(((k:Nat):Int)==(k:Int))=true;simp⟩
theorem qu(l:List Nat):(l.map nD).all cI=true:=by rw[MP];intro x hx;obtain⟨k,_,rfl⟩:=q_.mp hx;rfl
theorem C8(l:List Nat)(k:Nat):hZ (nD k) (LN l)=some (.bl (decide (k∈l))):=by show(if cI (nD k)=true/\(l.map nD).all cI=true then some ((l.map nD).any fun y=>eqs y (nD k))else none).map D.bl=_;rw[if_pos ⟨rfl,qu l⟩,nO];rfl
theorem EU(l:List Nat)(k:Nat):dD (nD k) (LN l)=some (.bl (! decide (k∈l))):=by show(if cI (nD k)=true/\(l.map nD).all cI=true then some ((l.map nD).any fun y=>eqs y (nD k))else none).map (fun b=>D.bl (! b))=_;rw[if_pos ⟨rfl,qu l⟩,nO];rfl
theorem LA(k:Nat):jl [nD k]=.ok (.bl true):=rfl
theorem Lz(k b:Nat):mE [nD k,nD b]=.ok (.bl (decide (k<b))):=by refine b5 (B:=sG) (n:=2) ?_;unfold sG;refine bh (bJ ?_);rw[zd (aT (ak (d:=nD k) rfl ao) (LA k))];exact GQ rfl rfl (Dc k) rfl (lH k b)
theorem mn{α:Type}(f:α->D)(l:List α):lenD [.tup (l.map f)]=some (nD l.length):=by show some (D.int ((l.map f).length:Int))=_;rw[l_]
theorem jM{α:Type}(f:α->D)(l:List α):lenD [.lst (l.map f)]=some (nD l.length):=by show some (D.int ((l.map f).length:Int))=_;rw[l_]
theorem AG{α:Type}(f:α->au×D)(l:List α):lenD [.dic (l.map f)]=some (nD l.length):=by show some (D.int ((l.map f).length:Int))=_;rw[l_]
theorem rZ(n:Nat):eqD (nD n) (nD n)=some (.bl true):=by have e:=iX n n;rw[decide_eq_true rfl]at e;exact e
theorem zf(n:Nat):cJ 0 n=(a_ n).map nD:=by unfold cJ;refine MB fun i _=>?_;show D.int (0+(i:Int))=D.int (i:Int);rw[Int.zero_add]
theorem HZ(j:Int):jA [.int j]=if-(2^62)<=j/\j<2^62/\j.toNat<=sizeLine then some (.lst (cJ 0 j.toNat))else none:=rfl
theorem rD{n:Nat}(h:n<=1000):jA [nD n]=some (LN (a_ n)):=by
 have hs:(n:Int).toNat<=sizeLine:=by rw[NF,MU];omega
 rw[HZ,if_pos ⟨by omega,by omega,hs⟩,NF,zf]
theorem Hx(j:Int):b6 [.int j]=if-(2^62)<=j/\j<2^62 then some (cJ 0 j.toNat)else none:=rfl
theorem gA{n:Nat}(h:n<=1000):b6 [nD n]=some ((a_ n).map nD):=by rw[Hx,if_pos ⟨by omega,by omega⟩,NF,zf]
theorem gD{fl:aj->Res (List D)}{k:List D->Option (List D)}{r:aj}{ds es:List D}(h1:fl r=.ok ds)(h2:k ds=some es):cj k fl r=.ok es:=by unfold cj;rw[h1,bind_ok,h2];rfl
theorem BJ{p:Nat->Bool}:∀(l:List Nat),l.find? p=(l.filter p).head?
|[]=>rfl
|a::l=>by rw[K_,ME];cases h:p a with
 |true=>simp
 |false=>simpa using BJ l
theorem C3(o:Option Nat)(x:Nat):eqD (oD o) (nD x)=some (.bl (decide (o=some x))):=by cases o with
|none=>unfold eqD oD;rw[eqB_non_int];simp
|some k=>show eqD (nD k) (nD x)=_;rw[iX];simp
def own(oz:List (Option Nat))(h:Nat):Option Nat:=(oz[h]?).join
theorem Eo{oz:List (Option Nat)}{h:Nat}(hh:h<oz.length):(oz.map oD)[h]? = some (oD (own oz h)):=by rw[x_,n_ hh];unfold own;rw[n_ hh];rfl
theorem BQ{row:List Nat}{rest:List (List Nat)}:fK [WD (row::rest)]=.ok (nD row.length):=by refine b5 (B:=tz) (n:=1) ?_;unfold tz;exact bh (bJ (bM (ak (ay (a:=WD (row::rest)) (b:=.int 0) rfl rfl (ixA_T0 _ _)) ao) (mn _ _)))
theorem AN{row things:List Nat}(h:∃x∈row,x∈things)(hl:row.length<=1000):jo [TN row,LN things]=.ok (nD (Rg.best row things)):=by
 refine b5 (B:=tu) (n:=2) ?_;unfold tu;have hc:(cU 1 [1] (aV b9 (gv 0)) (aS 0) (aP (f2 (gv 0) (gv 1) hZ)) (gv 0)) [some (TN row),some (LN things)]=.ok (LN (row.filter fun x=>decide (x∈things))):=by
  refine jg nD (fun x=>decide (x∈things)) nD (l:=row) rfl hl fun a _=>⟨[some (nD a),some (LN things)],rfl,?_,fun _=>rfl⟩
  exact ce (ay (a:=nD a) (b:=LN things) rfl rfl (C8 _ _))
 have hb:∃t,(row.filter fun x=>decide (x∈things))=Rg.best row things::t:=by unfold Rg.best;rw[BJ];cases e:row.filter fun x=>decide (x∈things)with
 |nil=>obtain⟨x,h1,h2⟩:=h;have:x∈row.filter fun x=>decide (x∈things):=y_.mpr ⟨h1,by simpa using h2⟩;rw[e]at this;cases this
 |cons a t=>exact⟨t,rfl⟩
 obtain⟨t,ht⟩:=hb;rw[ht]at hc;exact bh (bJ (ay hc (b:=.int 0) rfl (ixA_L0 _ _)))
abbrev g5(pre:List Nat):D:=.dic ((pre.map fun k=>(k,D.bl true)).map fun p=>(kI p.1,p.2))
theorem zI(b:Nat)(num:D):∀(suf pre:List Nat)(x y:Option D),(pre++suf).Nodup->(∀k∈suf,k<b)->(pre++suf).length<=1000 ->∃x' y',aF (nI (io (aS 3) (io (aS 4) lK))) uM (cY pre.length (suf.map nD)) [some num,some (nD b),some (g5 pre),x,y]=.nx [some num,some (nD b),some (g5 (pre++suf)),x',y']
|[],pre,x,y,_,_,_=>⟨x,y,by rw[ML];exact eI⟩
|k::suf,pre,x,y,hn,hb,hl=>by
  have hk:k∉pre:=fun z=>(Rs.mp hn).2.2 k z k e_ rfl;obtain⟨x',y',ih⟩:=zI b num suf (pre++[k]) (some (nD pre.length)) (some (nD k)) (by simpa using hn) (fun j hj=>hb j (c_ _ hj)) (by simpa using hl);refine⟨x',y',?_⟩;rw[show(pre++[k]).length=pre.length+1 by simp]at ih;rw[show pre++k::suf=(pre++[k])++suf by simp,<-ih];show aF _ _ (.tup [.int ((pre.length:Nat):Int),nD k]::cY (pre.length+1) (suf.map nD)) _=_;refine eF (r1:=[some num,some (nD b),some (g5 pre),some (nD pre.length),some (nD k)]) rfl ?_;have c2:hZ (nD k) (g5 pre)=some (.bl false):=by
   show(some (cO _ (kI k))).map D.bl=_;rw[yK,Mx];have:decide (k∈pre.map ((fun p:Nat×D=>p.1)∘fun k=>(k,D.bl true)))=false:=by rw[decide_eq_false_iff_not];simpa[PF]using hk
   rw[this];rfl
  have c3:dA (g5 pre) (nD k) (.bl true)=some (g5 (pre++[k])):=by show(if _ then some (D.dic (cz _ (kI k) (.bl true)))else none)=_;rw[if_pos (by rw[l_,l_,MU];simp at hl;omega),IZ _ _ _ (by rw[Mx];simpa[PF]using hk)];simp
  have c1:decide (k<b)=true:=decide_eq_true (hb k e_);unfold uM;have hif:(js (cP (b7 (aJ (af (gv 4) (af (gv 1) aa)) [] mE))) (aP (f2 (gv 4) (gv 2) hZ))) [some num,some (nD b),some (g5 pre),some (nD pre.length),some (nD k)]=.ok false:=by have h0:=Lz k b;rw[c1]at h0;rw[ke (jd (gE (b:=true) (aT (ak (d:=nD k) rfl (ak (d:=nD b) rfl ao)) h0) rfl))];exact ce (ay (a:=nD k) (b:=g5 pre) rfl rfl c2)
  refine(av (kL hif)).trans ?_;exact av (jI (d:=g5 pre) (k:=nD k) rfl rfl rfl c3)
theorem LH{l:List Nat}{b:Nat}(hn:l.Nodup)(hb:∀k∈l,k<b)(hl:l.length<=1000):pM [LN l,nD b]=.ok (nD l.length):=by obtain⟨x',y',h⟩:=zI b (LN l) l [] none none hn hb hl;refine b5 (B:=tU) (n:=5) ?_;unfold tU;refine(av (r':=[some (LN l),some (nD b),some (g5 []),none,none]) rfl).trans ?_;refine(av ((d7 (ds:=cY 0 (l.map nD)) rfl).trans h)).trans ?_;exact bh (bJ (bM (ak (d:=LN l) rfl ao) (jM _ _)))
theorem Kv{l:List Nat}{n:Nat}(hn:l.Nodup)(hb:∀k∈l,k<n)(h8:l.length<=1000):pr [LN l,nD n]=.ok (.bl true):=by refine b5 (B:=sZ) (n:=2) ?_;unfold sZ;exact bh (bJ (ay (a:=nD l.length) (b:=nD l.length) (aT (ak (d:=LN l) rfl (ak (d:=nD n) rfl ao)) (LH hn hb h8)) (bM (ak (d:=LN l) rfl ao) (jM _ _)) (rZ _)))
theorem Hz{l:List Nat}{n:Nat}(hn:l.Nodup)(hb:∀k∈l,k<n)(hl:l.length=n)(h8:n<=1000):pW [LN l,nD n]=.ok (.bl true):=by refine b5 (B:=uL) (n:=2) ?_;unfold uL;subst hl;refine bh (bJ ?_);rw[zd (ay (a:=nD l.length) (b:=nD l.length) (bM (ak (d:=LN l) rfl ao) (jM _ _)) rfl (rZ _))];exact aT (ak (d:=LN l) rfl (ak (d:=nD l.length) rfl ao)) (Kv hn hb h8)
theorem LQ{rz:List (List Nat)}(h:rz.length<=1000):jm [WD rz,.non]=.ok (LN (a_ rz.length)):=by refine b5 (B:=lc) (n:=2) ?_;unfold lc;refine bh ((kL (b:=true) rfl).trans ?_);rw[if_pos rfl];exact bh (bJ (bM (ds:=[nD rz.length]) (ak (bM (ak (d:=WD rz) rfl ao) (mn _ _)) ao) (rD h)))
theorem BG{rz:List (List Nat)}{l:List Nat}(hn:l.Nodup)(hb:∀k∈l,k<rz.length)(hl:l.length=rz.length)(h8:rz.length<=1000):jm [WD rz,LN l]=.ok (LN l):=by refine b5 (B:=lc) (n:=2) ?_;unfold lc;refine(av (r':=[some (WD rz),some (LN l)]) ((kL (b:=false) rfl).trans rfl)).trans ?_;refine(av (r':=[some (WD rz),some (LN l)]) ((kL (b:=false) (jd (b:=true) (gE (aT (ak (d:=LN l) rfl (ak (bM (ak (d:=WD rz) rfl ao) (mn _ _)) ao)) (Hz hn hb hl h8)) rfl))).trans rfl)).trans ?_;exact bh (bJ (bM (ak (d:=LN l) rfl ao) rfl))
theorem zL(oz:List (Option Nat))(line:List Nat)(x:Nat):∀(l:List Nat)(y:Option D),(∀h∈l,h<oz.length) ->(match l.find? (fun h=>decide (own oz h=some x))with
  |some h=>aF (aS 3) mW (l.map nD) [some (OD oz),some (LN line),some (nD x),y]=.rt (nD h)
  |none=>∃y',aF (aS 3) mW (l.map nD) [some (OD oz),some (LN line),some (nD x),y]=.nx [some (OD oz),some (LN line),some (nD x),y'])
|[],y,_=>⟨y,eI⟩
|h::l,y,hl=>by have c:(aP (f2 (f2 (gv 0) (gv 3) bb) (gv 2) eqD)) [some (OD oz),some (LN line),some (nD x),some (nD h)]=.ok (decide (own oz h=some x)):=ce (ay (ay (a:=OD oz) (b:=nD h) rfl rfl (ij (Eo (hl h e_)))) (b:=nD x) rfl (C3 _ _));rw[K_];cases e:decide (own oz h=some x)with
 |true=>rw[e]at c;refine DF (r1:=[some (OD oz),some (LN line),some (nD x),some (nD h)]) rfl ?_;exact bh ((dY c).trans (bh (bJ (d:=nD h) rfl)))
 |false=>rw[e]at c;have ih:=zL oz line x l (some (nD h)) fun k hk=>hl k (c_ _ hk);have st:aF (aS 3) mW ((h::l).map nD) [some (OD oz),some (LN line),some (nD x),y]=aF (aS 3) mW (l.map nD) [some (OD oz),some (LN line),some (nD x),some (nD h)]:=eF (r1:=[some (OD oz),some (LN line),some (nD x),some (nD h)]) rfl ((av (bP c)).trans rfl);rw[st];exact ih
theorem Ka{oz:List (Option Nat)}{line:List Nat}{x:Nat}(hl:∀h∈line,h<oz.length):pv [OD oz,LN line,nD x]=.ok (oD (line.find? fun h=>decide (own oz h=some x))):=by refine b5 (B:=tY) (n:=4) ?_;unfold tY;have h:=zL oz line x line none hl;cases e:line.find? fun h=>decide (own oz h=some x)with
|some k=>rw[e]at h;exact bh ((d7 (ds:=line.map nD) rfl).trans h)
|none=>rw[e]at h;obtain⟨y',h⟩:=h;exact(av ((d7 (ds:=line.map nD) rfl).trans h)).trans (bh (bJ (d:=.non) rfl))
theorem Da(o:Option Nat):kj (oD o) .non=some (.bl (decide (o=none))):=by cases o <;> rfl
theorem Ks{oz:List (Option Nat)}{line:List Nat}{x:Nat}(hl:∀h∈line,h<oz.length)(hne:line≠[]):mV [OD oz,LN line,nD x]=.ok (nD ((line.find? fun h=>decide (own oz h=some x)).getD (line.headD 0))):=by refine b5 (B:=uI) (n:=4) ?_;unfold uI;refine(av (bN (aT (ak (d:=OD oz) rfl (ak (d:=LN line) rfl (ak (d:=nD x) rfl ao))) (Ka hl)))).trans ?_;refine bh (bJ ?_);have c:=ce (ay (f:=gv 3) (f':=fun _=>Res.ok D.non) (r:=[some (OD oz),some (LN line),some (nD x),some (oD (line.find? fun h=>decide (own oz h=some x)))]) rfl rfl (Da (line.find? fun h=>decide (own oz h=some x))));cases e:line.find? fun h=>decide (own oz h=some x)with
|some k=>rw[e,decide_eq_false (by simp)]at c;exact(wV c).trans rfl
|none=>rw[e,decide_eq_true rfl]at c;refine(wW c).trans ?_;cases line with
 |nil=>exact absurd rfl hne
 |cons a l=>exact ay (a:=LN (a::l)) (b:=.int 0) rfl rfl (ixA_L0 _ _)
abbrev KD(kvs:List (Nat×Nat)):D:=.dic (kvs.map fun p=>(kI p.1,nD p.2))
abbrev FD(l:List Nat)(f:Nat->Nat):List (Nat×Nat):=l.map fun h=>(h,f h)
theorem qU{a b:Nat}(h:kI a=kI b):a=b:=OY.mp (RE h)
theorem pf:∀{kvs:List (Nat×Nat)}{h:Nat}{f:Nat->Nat},(∀p∈kvs,p.2=f p.1)->h∈kvs.map (·.1)->bc (kvs.map fun p=>(kI p.1,nD p.2)) (kI h)=some (nD (f h))
|[],_,_,_,hh=>by cases hh
|p::kvs,h,f,hf,hh=>by
  by_cases e:p.1=h
  .have:=hf p e_;subst e;simp[bc,K_,this]
  .have hne:¬ kI p.1=kI h:=fun z=>e (qU z);have hh':h∈kvs.map (·.1):=by
    rcases p_.mp hh with z|z
    .exact absurd z.symm e
    .exact z
   have ih:=pf (f:=f) (fun q hq=>hf q (c_ _ hq)) hh';have e1:bc ((p::kvs).map fun p=>(kI p.1,nD p.2)) (kI h)=bc (kvs.map fun p=>(kI p.1,nD p.2)) (kI h):=by simp only[bc,G_,K_];rw[decide_eq_false hne]
   rw[e1];exact ih
theorem rA(l:List Nat)(f:Nat->Nat):(FD l f).map (·.1)=l:=by simp[FD,PF]
theorem lR{l:List Nat}{f:Nat->Nat}{h:Nat}(hh:h∈l):bb (KD (FD l f)) (nD h)=some (nD (f h)):=qy (pf (f:=f) (fun p hp=>by obtain⟨x,_,rfl⟩:=q_.mp hp;rfl) (by rw[rA];exact hh))
def putN(kvs:List (Nat×Nat))(k v:Nat):List (Nat×Nat):=if k∈kvs.map (·.1)then kvs.map fun p=>if p.1=k then(p.1,v)else p else kvs++[(k,v)]
theorem nH(kvs:List (Nat×Nat))(k:Nat):((kvs.map fun p=>(kI p.1,nD p.2)).any fun kv=>decide (kv.1=kI k))=decide (k∈kvs.map (·.1)):=by
 rw[Qo,Ms,P7,decide_eq_true_iff,q_];constructor
 .rintro⟨p,h1,h2⟩
  simp only[MR,decide_eq_true_eq]at h2;exact⟨p,h1,qU h2⟩
 .rintro⟨p,h1,rfl⟩
  exact⟨p,h1,by simp⟩
theorem ze(kvs:List (Nat×Nat))(k v:Nat):cz (kvs.map fun p=>(kI p.1,nD p.2)) (kI k) (nD v)=(putN kvs k v).map fun p=>(kI p.1,nD p.2):=by
 unfold cz putN;rw[nH];by_cases h:k∈kvs.map (·.1)
 .rw[decide_eq_true h,if_pos rfl,if_pos h,Mx,Mx];refine MB fun p _=>?_;simp only[MR];by_cases e:p.1=k
  .rw[if_pos (by rw[e]),if_pos e]
  .rw[if_neg (fun z=>e (qU z)),if_neg e]
 .rw[decide_eq_false h,if_neg i_,if_neg h,MN];rfl
theorem J6(kvs:List (Nat×Nat))(k v j:Nat):j∈(putN kvs k v).map (·.1)↔j∈kvs.map (·.1)\/j=k:=by
 unfold putN;by_cases h:k∈kvs.map (·.1)
 .rw[if_pos h,Mx];have:((fun p:Nat×Nat=>p.1)∘fun p=>if p.1=k then(p.1,v)else p)=fun p=>p.1:=by funext p;simp only[MR];split <;> rfl
  rw[this];constructor
  .exact .inl
  .rintro(z|rfl)
   .exact z
   .exact h
 .rw[if_neg h];simp
theorem I0{kvs:List (Nat×Nat)}{k v:Nat}{f:Nat->Nat}(h:∀p∈kvs,p.2=f p.1)(hv:v=f k):∀p∈putN kvs k v,p.2=f p.1:=by
 intro p hp;unfold putN at hp;split at hp
 .obtain⟨q,h1,rfl⟩:=q_.mp hp;split
  .rename_i e;simp only;rw[e];exact hv
  .exact h q h1
 .rcases M9.mp hp with z|z
  .exact h p z
  .rw[MG.mp z];exact hv
theorem oH{kvs:List (Nat×Nat)}{k v:Nat}(hl:kvs.length<=1000):dA (KD kvs) (nD k) (nD v)=some (KD (putN kvs k v)):=by show(if (kvs.map fun p=>(kI p.1,nD p.2)).length<sizeLine then some (D.dic (cz _ (kI k) (nD v)))else none)=_;rw[if_pos (by rw[l_,MU];omega),ze]
structure GI(t:Nat->Nat)(kvs:List (Nat×Nat))(L:List Nat):Prop where
 nd:(kvs.map (·.1)).Nodup
 val:∀p∈kvs,p.2=t p.1
 key:∀h,h∈kvs.map (·.1)↔h∈L
theorem Gr{kvs:List (Nat×Nat)}{k v:Nat}(h:(kvs.map (·.1)).Nodup):((putN kvs k v).map (·.1)).Nodup:=by
 unfold putN;split
 .rw[Mx];have:((fun p:Nat×Nat=>p.1)∘fun p=>if p.1=k then(p.1,v)else p)=fun p=>p.1:=by funext p;simp only[MR];split <;> rfl
  rw[this];exact h
 .rename_i hk;rw[MN];refine List.nodup_append.mpr ⟨h,by simp,fun a ha b hb=>?_⟩;simp at hb
  rintro rfl
  exact hk (hb▸ha)
theorem GI.put{t:Nat->Nat}{kvs:List (Nat×Nat)}{L:List Nat}(g:GI t kvs L)(k:Nat):GI t (putN kvs k (t k)) (L++[k]):=⟨Gr g.nd,I0 g.val rfl,fun h=>by rw[J6,g.key];simp⟩
theorem GI.len{t:Nat->Nat}{kvs:List (Nat×Nat)}{L line:List Nat}(g:GI t kvs L)(hs:∀h∈L,h∈line):kvs.length<=line.length:=by have:=Rg.k8 (m:=line) g.nd fun h hh=>hs h ((g.key h).mp hh);simpa using this
theorem GI.congr{t t':Nat->Nat}{kvs:List (Nat×Nat)}{L:List Nat}(g:GI t kvs L)(h:∀x∈L,t' x=t x):GI t' kvs L:=⟨g.nd,fun p hp=>by rw[g.val p hp,h p.1 ((g.key _).mp (q_.mpr ⟨p,hp,rfl⟩))],g.key⟩
theorem GI.mem{t:Nat->Nat}{kvs:List (Nat×Nat)}{L M:List Nat}(g:GI t kvs L)(h:∀x,x∈L↔x∈M):GI t kvs M:=⟨g.nd,g.val,fun x=>(g.key x).trans (h x)⟩
theorem GI.nil(t:Nat->Nat):GI t [] []:=⟨by simp,fun _ hp=>(nomatch hp),fun h=>by simp⟩
theorem pe{α:Type}(l:List α):l.filter (fun _=>true)=l:=Ov.mpr fun _ _=>rfl
theorem GI.full{t:Nat->Nat}{kvs:List (Nat×Nat)}{L:List Nat}{n:Nat}(g:GI t kvs L)(h:∀x,x∈L↔x<n):kvs.length=n:=by have h1:=g.len (line:=a_ n) fun x hx=>k_.mpr ((h x).mp hx);have h2:=Rg.k8 (l:=a_ n) (m:=kvs.map (·.1)) J_ fun x hx=>(g.key x).mpr ((h x).mpr (k_.mp hx));simp at h1 h2;omega
def Wr(rz:List (List Nat))(h:Nat):List Nat:=(rz[h]?).getD []
theorem kP{rz:List (List Nat)}{h:Nat}(hh:h<rz.length):(rz.map TN)[h]? = some (TN (Wr rz h)):=by rw[x_];unfold Wr;rw[n_ hh];rfl
theorem AK{kvs:List (Nat×Nat)}{k v:Nat}(h:k∉kvs.map (·.1)):putN kvs k v=kvs++[(k,v)]:=by unfold putN;rw[if_neg h]
theorem Ck{a:Nat->Nat}{kvs:List (Nat×Nat)}{L:List Nat}{n:Nat}(g:GI a kvs L)(h:∀x,x∈L↔x<n)(h8:n<=60):jP [KD kvs]=.ok (TN ((a_ n).map a)):=by have hl:=g.full h;refine b5 (B:=tX) (n:=1) ?_;unfold tX;refine bh (bJ (bM (ak (jg (l:=a_ n) nD (fun _=>true) (fun h=>nD (a h)) (gD (ds:=[nD n]) (ak (bM (ak (d:=KD kvs) rfl ao) (by rw[AG,hl])) ao) (gA (by omega))) (by simp;omega) fun x hx=>⟨[some (nD x),some (KD kvs)],rfl,rfl,fun _=>ay (a:=KD kvs) (b:=nD x) rfl rfl (qy (pf g.val ((g.key x).mpr ((h x).mpr (k_.mp hx)))))⟩) ao) ?_));rw[pe,e_tupL];show some (D.tup _)=some (D.tup _);rw[Mx];rfl
abbrev dk(t:Nat->Nat)(h:Nat):D:=.tup [nD h,nD (t h)]
abbrev dv(t:Nat->Nat)(ring:List Nat):D:=.tup (ring.map (dk t))
def ip(t:Nat->Nat):Option (List Nat)->D
|some ring=>dv t ring
|none=>.non
section
variable{t f:Nat->Nat}{line:List Nat}{first:Nat}(hcl:∀h∈line,f h∈line)(hn:line.length<=60)
include hcl hn
theorem Hv:∀(j:Nat)(ring:List Nat)(hand:Nat),hand∈line->ring.length<=line.length->line.length<j+ring.length ->∃ring' hand',dm eS tJ Cr j [some (nD first),some (KD (FD line t)),some (KD (FD line f)),some (.lst (ring.map (dk t))),some (nD hand)]=.nx [some (nD first),some (KD (FD line t)),some (KD (FD line f)),some (.lst (ring'.map (dk t))),some (nD hand')] /\∀k,line.length<k+ring.length->Rg.gx f line.length first k ring hand=if hand'=first then some ring' else none:=by
 intro j
 induction j with
|zero=>intro ring hand _ h1 h2;omega
|succ j ih=>
  intro ring hand hh h1 h2;have c1:(aP (f2 (gv 4) (gv 0) d9)) [some (nD first),some (KD (FD line t)),some (KD (FD line f)),some (.lst (ring.map (dk t))),some (nD hand)]=.ok (decide (first<hand)):=ce (ay (a:=nD hand) (b:=nD first) rfl rfl (g4 _ _));have c2:(aP (f2 (fC (af (gv 3) aa) lenD) (fC (af (gv 1) aa) lenD) gR)) [some (nD first),some (KD (FD line t)),some (KD (FD line f)),some (.lst (ring.map (dk t))),some (nD hand)]=.ok (decide (ring.length<line.length)):=by refine ce (ay (a:=nD ring.length) (b:=nD line.length) (bM (ak rfl ao) (jM _ _)) (bM (ak (d:=KD (FD line t)) rfl ao) ?_) (lH _ _));rw[AG,l_]
  by_cases hc:first<hand/\ring.length<line.length
  .have cq:tJ [some (nD first),some (KD (FD line t)),some (KD (FD line f)),some (.lst (ring.map (dk t))),some (nD hand)]=.ok true:=by rw[decide_eq_true hc.1]at c1;rw[decide_eq_true hc.2]at c2;exact(il c1).trans c2
   obtain⟨ring',hand',i1,i2⟩:=ih (ring++[hand]) (f hand) (hcl hand hh) (by simp;omega) (by simp;omega);refine⟨ring',hand',?_,fun k hk=>?_⟩
   .rw[rS cq (r':=[some (nD first),some (KD (FD line t)),some (KD (FD line f)),some (.lst ((ring++[hand]).map (dk t))),some (nD (f hand))]) ?_]
    .exact i1
    .refine(av (jG (d:=.lst (ring.map (dk t))) (ds:=[dk t hand]) rfl rfl (ak (lW (ak (d:=nD hand) rfl (ak (ay (a:=KD (FD line t)) (b:=nD hand) rfl rfl (lR hh)) ao)) (by simp)) ao) (oP (by simp;omega)))).trans ?_;refine(av (bN (d:=nD (f hand)) (ay (a:=KD (FD line f)) (b:=nD hand) rfl rfl (lR hh)))).trans ?_;show Out.nx [_,_,_,some (D.lst (ring.map (dk t)++[dk t hand])),_]=_;rw[MN];rfl
   .cases k with
   |zero=>omega
   |succ k=>unfold Rg.gx;rw[if_pos hc];exact i2 k (by simp;omega)
  .refine⟨ring,hand,rR ?_,fun k hk=>?_⟩
   .by_cases hc1:first<hand
    .rw[decide_eq_true hc1]at c1;rw[decide_eq_false (fun z=>hc ⟨hc1,z⟩)]at c2;exact(il c1).trans c2
    .rw[decide_eq_false hc1]at c1;exact iW c1
   .cases k with
   |zero=>omega
   |succ k=>unfold Rg.gx;rw[if_neg hc]
theorem Jh(hf:first∈line):pA [nD first,KD (FD line t),KD (FD line f)]=.ok (ip t (Rg.iQ f line.length first)):=by
 refine b5 (B:=tw) (n:=5) ?_;unfold tw;have hpos:=Np hf;obtain⟨ring',hand',h1,h2⟩:=Hv (t:=t) (first:=first) hcl hn 64 [first] (f first) (hcl first hf) (by show 1<=_;omega) (by simp;omega);refine(av (bN (d:=.lst ([first].map (dk t))) (gy (ak (lW (ak (d:=nD first) rfl (ak (ay (a:=KD (FD line t)) (b:=nD first) rfl rfl (lR hf)) ao)) (by simp)) ao) (by simp)))).trans ?_;refine(av (bN (d:=nD (f first)) (ay (a:=KD (FD line f)) (b:=nD first) rfl rfl (lR hf)))).trans ?_;refine(av h1).trans ?_;have hr:Rg.iQ f line.length first=if hand'=first then some ring' else none:=h2 _ (by simp;omega)
 rw[hr];have c:=ce (ay (f:=gv 4) (f':=gv 0) (r:=[some (nD first),some (KD (FD line t)),some (KD (FD line f)),some (.lst (ring'.map (dk t))),some (nD hand')]) (a:=nD hand') (b:=nD first) rfl rfl (iX hand' first));by_cases e:hand'=first
 .rw[decide_eq_true e]at c;rw[if_pos e];exact bh (bJ ((wW c).trans (bM (ak (d:=.lst (ring'.map (dk t))) rfl ao) rfl)))
 .rw[decide_eq_false e]at c;rw[if_neg e];exact bh (bJ ((wV c).trans rfl))
end
structure Snd(rz:List (List Nat))(oz:List (Option Nat))(s:Rg.S):Prop where
 ok:Rg.Ok (Wr rz) (own oz) s
 inr:∀h∈s.line,h<rz.length
 ino:∀h∈s.line,h<oz.length
 wid:∀h∈s.line,(Wr rz h).length<=1000
 nl:s.line.length<=60
 nt:s.things.length<=60
section
variable{rz:List (List Nat)}{oz:List (Option Nat)}{s:Rg.S}
theorem Snd.tg(S:Snd rz oz s){h:Nat}(hh:h∈s.line):jo [TN (Wr rz h),LN s.things]=.ok (nD (Rg.bY (Wr rz) s h)):=AN (S.ok.some_thing hh) (S.wid h hh)
theorem Snd.pts(S:Snd rz oz s){x h:Nat}(hh:h∈s.line):mV [OD oz,LN s.line,nD x]=.ok (nD (Rg.pt (own oz) s x)):=Ks S.ino (Nt hh)
abbrev tS(rz:List (List Nat))(s:Rg.S):Nat->Nat:=Rg.bY (Wr rz) s
abbrev fS(rz:List (List Nat))(oz:List (Option Nat))(s:Rg.S):Nat->Nat:=Rg.cf (Wr rz) (own oz) s
theorem Ah(S:Snd rz oz s):∀(suf pre:List Nat)(y:Option D),pre++suf=s.line ->
  ∃y',aF (aS 6) CD (suf.map nD) [some (WD rz),some (OD oz),some (LN s.line),some (LN s.things),some (KD (FD pre (tS rz s))),some (KD (FD pre (fS rz oz s))),y,none]
   = .nx [some (WD rz),some (OD oz),some (LN s.line),some (LN s.things),some (KD (FD s.line (tS rz s))),some (KD (FD s.line (fS rz oz s))),y',none]
|[],pre,y,e=>⟨y,by rw[ML]at e;rw[e];exact eI⟩
|h::suf,pre,y,e=>by
  obtain⟨y',ih⟩:=Ah S suf (pre++[h]) (some (nD h)) (by simpa using e);have hh:h∈s.line:=by rw[<-e];simp
  have hn:=S.ok.nl;rw[<-e]at hn;have hk:h∉pre:=fun z=>(Rs.mp hn).2.2 h z h e_ rfl;have hpl:pre.length<=1000:=by have:=S.nl;rw[<-e]at this;simp at this;omega
  refine⟨y',?_⟩;rw[<-ih];refine eF (r1:=[some (WD rz),some (OD oz),some (LN s.line),some (LN s.things),some (KD (FD pre (tS rz s))),some (KD (FD pre (fS rz oz s))),some (nD h),none]) rfl ?_;have c1:dA (KD (FD pre (tS rz s))) (nD h) (nD (tS rz s h))=some (KD (FD (pre++[h]) (tS rz s))):=by rw[oH (by simpa using hpl),AK (by rw[rA];exact hk)];unfold FD;rw[MN];rfl
  have c2:dA (KD (FD pre (fS rz oz s))) (nD h) (nD (fS rz oz s h))=some (KD (FD (pre++[h]) (fS rz oz s))):=by rw[oH (by simpa using hpl),AK (by rw[rA];exact hk)];unfold FD;rw[MN];rfl
  refine(av (jI (d:=KD (FD pre (tS rz s))) (k:=nD h) (v:=nD (tS rz s h)) rfl (aT (ak (ay (a:=WD rz) (b:=nD h) rfl rfl (ij (kP (S.inr h hh)))) (ak (d:=LN s.things) rfl ao)) (S.tg hh)) rfl c1)).trans ?_;refine(av (jI (d:=KD (FD pre (fS rz oz s))) (k:=nD h) (v:=nD (fS rz oz s h)) rfl (aT (ak (d:=OD oz) rfl (ak (d:=LN s.line) rfl (ak (ay (a:=KD (FD (pre++[h]) (tS rz s))) (b:=nD h) rfl rfl (lR (by simp))) ao))) (S.pts hh)) rfl c2)).trans ?_;rfl
theorem rB{α:Type}(t:Nat->Nat)(f:α->Option (List Nat)):∀(l:List α),(((l.map f).filter SY).map (ip t))=(l.filterMap f).map (dv t)
|[]=>rfl
|a::l=>by rw[G_,ME,Nh];cases e:f a with
 |none=>simpa using rB t f l
 |some r=>simpa[ip]using rB t f l
theorem KR(t:Nat->Nat)(h:Nat):i8 (dk t h)=some [(h:Int),(t h:Int)]:=rfl
theorem AU(t:Nat->Nat):∀(ring:List Nat),g7 (ring.map (dk t))=some (ring.map fun h:Nat=>[(h:Int),(t h:Int)])
|[]=>rfl
|h::ring=>by show(i8 (dk t h)).bind _=_;rw[KR,AU t ring];rfl
theorem BF(t:Nat->Nat):∀(rs:List (List Nat)),(∀r∈rs,r≠[])->∃kss,jf (rs.map (dv t))=some kss
|[],_=>⟨[],rfl⟩
|r::rs,h=>by obtain⟨kss,e⟩:=BF t rs fun x hx=>h x (c_ _ hx);have hr:=h r e_;cases r with
 |nil=>exact absurd rfl hr
 |cons a r=>refine⟨((a::r).map fun h:Nat=>[(h:Int),(t h:Int)])::kss,?_⟩;show(g7 ((a::r).map (dk t))).bind _=_;rw[AU,e];rfl
theorem Ky(t:Nat->Nat)(rs:List (List Nat))(h:∀r∈rs,r≠[])(hl:rs.length<64):∃rs':List (List Nat),rs'.Perm rs/\oj [.lst (rs.map (dv t))]=some (.lst (rs'.map (dv t))):=by
 obtain⟨kss,e⟩:=BF t rs h;refine⟨(g6 (rs.map (dv t)).length fun i j=>dg (kss.getD i []) (kss.getD j [])).map fun i=>rs.getD i [],?_,?_⟩
 .have:=(sO (rs.map (dv t)).length fun i j=>dg (kss.getD i []) (kss.getD j [])).map fun i=>rs.getD i [];refine this.trans ?_;rw[l_];have e2:(a_ rs.length).map (fun i=>rs.getD i [])=rs:=by
   refine PC fun i=>?_;rw[x_];by_cases hi:i<rs.length
   .rw[MZ hi];simp[n_ hi]
   .rw[OR (by simp;omega),OR (by omega)];rfl
  rw[e2]
 .show(jf (rs.map (dv t))).bind _=_;rw[e];show(if _ then _ else _)=_;rw[if_pos (by rw[l_];exact hl)];unfold iZ;rw[Mx];congr 2;refine MB fun i hi=>?_;have hi:=sQ hi;rw[l_]at hi;simp[List.getD,n_ hi]
theorem J9{W:Nat->List Nat}{O:Nat->Option Nat}:∀r∈Rg.fj W O s,r≠[]:=by intro r hr;obtain⟨x,_,h2⟩:=Na.mp hr;exact Rg.Af h2
theorem HQ(t:Nat->Nat)(o:Option (List Nat)):eY (ip t o) .non=some (.bl o.isSome):=by cases o <;> rfl
theorem JQ(S:Snd rz oz s):∃rs:List (List Nat),rs.Perm (Rg.fj (Wr rz) (own oz) s)/\pU [WD rz,OD oz,LN s.line,LN s.things]=.ok (.lst (rs.map (dv (tS rz s)))):=by
 obtain⟨y',hloop⟩:=Ah S s.line [] none rfl;have hcl:∀h∈s.line,fS rz oz s h∈s.line:=fun h hh=>Rg.qW (Nt hh);have hlen:(Rg.fj (Wr rz) (own oz) s).length<=s.line.length:=List.length_filterMap_le _ _;obtain⟨rs',hp,hs⟩:=Ky (tS rz s) (Rg.fj (Wr rz) (own oz) s) J9 (by have:=S.nl;omega);refine⟨rs',hp,b5 (B:=uD) (n:=8) ?_⟩;unfold uD;refine(av (r':=[some (WD rz),some (OD oz),some (LN s.line),some (LN s.things),some (KD (FD [] (tS rz s))),none,none,none]) rfl).trans ?_;refine(av (r':=[some (WD rz),some (OD oz),some (LN s.line),some (LN s.things),some (KD (FD [] (tS rz s))),some (KD (FD [] (fS rz oz s))),none,none]) rfl).trans ?_;refine(av ((d7 (ds:=s.line.map nD) rfl).trans hloop)).trans ?_;refine(av (bN (jg (l:=s.line) nD (fun _=>true) (fun h=>ip (tS rz s) (Rg.iQ (fS rz oz s) s.line.length h)) rfl (by have:=S.nl;omega) fun h hh=>⟨[some (nD h),some (KD (FD s.line (tS rz s))),some (KD (FD s.line (fS rz oz s)))],rfl,rfl,fun _=>aT (ak (d:=nD h) rfl (ak (d:=KD (FD s.line (tS rz s))) rfl (ak (d:=KD (FD s.line (fS rz oz s))) rfl ao))) (Jh hcl S.nl hh)⟩))).trans ?_;rw[pe];refine bh (bJ (bM (ak (jg (l:=s.line.map (Rg.iQ (fS rz oz s) s.line.length)) (ip (tS rz s)) SY (ip (tS rz s)) ?_ (by have:=S.nl;simp;omega) fun o _=>⟨[some (ip (tS rz s) o)],rfl,ce (ay (a:=ip (tS rz s) o) (b:=.non) rfl rfl (HQ _ _)),fun _=>rfl⟩) ao) ?_))
 .rw[Mx];rfl
 .rw[rB];exact hs
theorem xO{t:Nat->Nat}{line:List Nat}(hl:line.length<=60)(rg d:D):∀(ring L:List Nat)(kvs:List (Nat×Nat))(x y:Option D),GI t kvs L->(∀h∈L++ring,h∈line) ->∃kvs' x' y',GI t kvs' (L++ring)/\aF (nI (io (aS 3) (io (aS 4) lK))) Bq (ring.map (dk t)) [some rg,some (KD kvs),some d,x,y]=.nx [some rg,some (KD kvs'),some d,x',y']
|[],L,kvs,x,y,g,hs=>⟨kvs,x,y,by rw[ML];exact g,eI⟩
|h::ring,L,kvs,x,y,g,hs=>by obtain⟨kvs',x',y',g',ih⟩:=xO hl rg d ring (L++[h]) (putN kvs h (t h)) (some (nD h)) (some (nD (t h))) (g.put h) (by simpa using hs);refine⟨kvs',x',y',by simpa using g',?_⟩;rw[<-ih];have hk:=g.len (line:=line) fun x hx=>hs x (MQ _ hx);exact eF (r1:=[some rg,some (KD kvs),some d,some (nD h),some (nD (t h))]) rfl (av (jI (d:=KD kvs) (k:=nD h) (v:=nD (t h)) rfl rfl rfl (oH (by omega))))
theorem yJ{t:Nat->Nat}{line:List Nat}(hl:line.length<=60)(rg:D):∀(rs:List (List Nat))(L:List Nat)(kvs:List (Nat×Nat))(z x y:Option D),GI t kvs L->(∀h∈L++rs.flatten,h∈line) ->∃kvs' z' x' y',GI t kvs' (L++rs.flatten)/\aF (aS 2) Br (rs.map (dv t)) [some rg,some (KD kvs),z,x,y]=.nx [some rg,some (KD kvs'),z',x',y']
|[],L,kvs,z,x,y,g,hs=>⟨kvs,z,x,y,by simpa using g,eI⟩
|r::rs,L,kvs,z,x,y,g,hs=>by
  obtain⟨kvs1,x1,y1,g1,h1⟩:=xO hl rg (dv t r) r L kvs x y g fun h hh=>hs h (by
   rw[Rq];rcases M9.mp hh with q|q
   .exact MQ _ q
   .exact Mr _ (MQ _ q))
  obtain⟨kvs',z',x',y',g',ih⟩:=yJ hl rg rs (L++r) kvs1 (some (dv t r)) x1 y1 g1 (by rw[M3];simpa using hs);refine⟨kvs',z',x',y',by rw[M3]at g';simpa using g',?_⟩;rw[<-ih];exact eF (r1:=[some rg,some (KD kvs),some (dv t r),x,y]) rfl (av ((d7 (ds:=r.map (dk t)) rfl).trans h1))
theorem Aj{t:Nat->Nat}{line:List Nat}{rs:List (List Nat)}(hl:line.length<=60)(hs:∀h∈rs.flatten,h∈line):∃kvs,GI t kvs rs.flatten/\jO [.lst (rs.map (dv t))]=.ok (KD kvs):=by obtain⟨kvs',z',x',y',g',h⟩:=yJ hl (.lst (rs.map (dv t))) rs [] [] none none none ⟨by simp,fun _ hp=>(nomatch hp),fun h=>by simp⟩ (by simpa using hs);refine⟨kvs',by simpa using g',b5 (B:=sk) (n:=5) ?_⟩;unfold sk;refine(av (r':=[some (.lst (rs.map (dv t))),some (KD []),none,none,none]) rfl).trans ?_;refine(av ((d7 (ds:=rs.map (dv t)) rfl).trans h)).trans ?_;exact bh (bJ (d:=KD kvs') rfl)
end
section
variable{rz:List (List Nat)}{oz:List (Option Nat)}
inductive Ch(rz:List (List Nat))(oz:List (Option Nat)):Rg.S->List (List (List Nat)×Rg.S)->Prop where
 |nil {s:Rg.S}:s.line=[]->Ch rz oz s []
 |cons {s:Rg.S} {rs:List (List Nat)} {l:List (List (List Nat)×Rg.S)}:rs.Perm (Rg.fj (Wr rz) (own oz) s)->Ch rz oz (Rg.minus (Wr rz) s rs.flatten) l->Ch rz oz s ((rs,s)::l)
abbrev gq(rz:List (List Nat))(p:List (List Nat)×Rg.S):D:=.lst (p.1.map (dv (tS rz p.2)))
theorem A3{s:Rg.S}{rs:List (List Nat)}(hp:rs.Perm (Rg.fj (Wr rz) (own oz) s)):Rg.Cyc (Wr rz) (own oz) s rs.flatten:=Rg.Ag (fun h hh=>by obtain⟨r,h1,h2⟩:=NV.mp hh;exact⟨r,hp.mem_iff.mp h1,h2⟩) (fun r hr h hh=>NV.mpr ⟨r,hp.mem_iff.mpr hr,hh⟩)
theorem Snd.minus{s:Rg.S}(S:Snd rz oz s){C:List Nat}(c:Rg.Cyc (Wr rz) (own oz) s C):Snd rz oz (Rg.minus (Wr rz) s C) where
 ok:=Rg.oI S.ok c
 inr:=fun h hh=>S.inr h (y_.mp hh).1
 ino:=fun h hh=>S.ino h (y_.mp hh).1
 wid:=fun h hh=>S.wid h (y_.mp hh).1
 nl:=MI (Qy _ _) S.nl
 nt:=MI (Qy _ _) S.nt
theorem Ji{s:Rg.S}{C:List Nat}(c:Rg.Cyc (Wr rz) (own oz) s C)(hne:C≠[]):(Rg.minus (Wr rz) s C).line.length<s.line.length:=by obtain⟨x,hx⟩:=NA _ hne;have:=Rg.pG (fun h=>decide (h∉C)) s.line;have h3:0<(s.line.filter fun h=>! decide (h∉C)).length:=Np (y_.mpr ⟨c.sub x hx,by simpa using hx⟩);show(s.line.filter _).length<_;omega
theorem K7{s:Rg.S}{rs:List (List Nat)}(hp:rs.Perm (Rg.fj (Wr rz) (own oz) s))(hne:s.line≠[]):rs.flatten≠[]:=by obtain⟨x,hx⟩:=NA _ (Rg.zK (W:=Wr rz) (O:=own oz) hne);obtain⟨r,h1,h2⟩:=NV.mp hx;exact Nt (NV.mpr ⟨r,hp.mem_iff.mpr h1,h2⟩)
theorem Dh{kvs:List (Nat×Nat)}{L:List Nat}{t:Nat->Nat}(g:GI t kvs L)(h:Nat):dD (nD h) (KD kvs)=some (.bl (decide (h∉L))):=by
 show(some (cO _ (kI h))).map (fun b=>D.bl (! b))=_;have e:cO (kvs.map fun p=>(kI p.1,nD p.2)) (kI h)=decide (h∈kvs.map (·.1)):=nH kvs h;rw[e];have:decide (h∈kvs.map (·.1))=decide (h∈L):=by rw[decide_eq_decide];exact g.key h
 rw[this];show some (D.bl (! decide (h∈L)))=_;rw[decide_not]
theorem GI.vals{kvs:List (Nat×Nat)}{L:List Nat}{t:Nat->Nat}(g:GI t kvs L)(x:Nat):x∈kvs.map (·.2)↔x∈L.map t:=by
 constructor
 .intro hx;obtain⟨p,h1,rfl⟩:=q_.mp hx;exact q_.mpr ⟨p.1,(g.key _).mp (q_.mpr ⟨p,h1,rfl⟩),(g.val p h1).symm⟩
 .intro hx;obtain⟨h,h1,rfl⟩:=q_.mp hx;obtain⟨p,h2,rfl⟩:=q_.mp ((g.key h).mpr h1);exact q_.mpr ⟨p,h2,g.val p h2⟩
theorem Di{kvs:List (Nat×Nat)}{L:List Nat}{t:Nat->Nat}(g:GI t kvs L)(x:Nat):dD (nD x) (LN (kvs.map (·.2)))=some (.bl (decide (x∉L.map t))):=by rw[EU,decide_not];congr 3;rw[decide_eq_decide];exact g.vals x
theorem Ht(od:D):∀(j:Nat)(s:Rg.S)(told:List D)(x y z:Option D),Snd rz oz s->s.line.length<j->told.length+s.line.length<=60 ->
  ∃(s':Rg.S)(l:List (List (List Nat)×Rg.S))(x' y' z':Option D),Ch rz oz s l/\l.length<=s.line.length /\
   dm eR B1 Bs j [some (WD rz),some (OD oz),some od,some (LN s.line),some (LN s.things),some (.lst told),x,y,z]
    = .nx [some (WD rz),some (OD oz),some od,some (LN s'.line),some (LN s'.things),some (.lst (told++l.map (gq rz))),x',y',z']:=by
 intro j
 induction j with
|zero=>intro s told x y z _ h;omega
|succ j ih=>
  intro s told x y z S hj ht;by_cases hne:s.line=[]
  .refine⟨s,[],x,y,z,.nil hne,MD _,?_⟩;rw[Qg,ML];refine rR (gE (d:=LN s.line) rfl ?_);rw[hne];rfl
  .obtain⟨rs,hp,hr⟩:=JQ S;have c:=A3 hp;obtain⟨kvs,g,hg⟩:=Aj (t:=tS rz s) S.nl c.sub;have hlt:=Ji c (K7 hp hne);obtain⟨s',l,x',y',z',h1,h2,h3⟩:=ih (Rg.minus (Wr rz) s rs.flatten) (told++[gq rz (rs,s)]) (some (gq rz (rs,s))) (some (KD kvs)) (some (LN (kvs.map (·.2)))) (S.minus c) (by omega) (by simp;omega);refine⟨s',(rs,s)::l,x',y',z',.cons hp h1,by simp;omega,?_⟩;rw[M3]at h3;rw[G_];refine Sd (rS (gE (b:=true) (d:=LN s.line) rfl ?_) ?_) h3
   .cases q:s.line with
   |nil=>exact absurd q hne
   |cons a t=>rfl
   .refine(av (bN (aT (ak (d:=WD rz) rfl (ak (d:=OD oz) rfl (ak (d:=LN s.line) rfl (ak (d:=LN s.things) rfl ao)))) hr))).trans ?_;refine(av (bN (aT (ak (d:=.lst (rs.map (dv (tS rz s)))) rfl ao) hg))).trans ?_;refine(av (bN (d:=LN (kvs.map (·.2))) (qr (a:=KD kvs) rfl ?_))).trans ?_
    .rw[e_valsD,Mx];show some (D.lst _)=some (D.lst ((kvs.map (·.2)).map nD));rw[Mx];rfl
    refine(av (bN (jg (l:=s.line) nD (fun h=>decide (h∉rs.flatten)) nD rfl (by have:=S.nl;omega) fun h hh=>⟨[some (nD h),some (KD kvs)],rfl,ce (ay (a:=nD h) (b:=KD kvs) rfl rfl (Dh g h)),fun _=>rfl⟩))).trans ?_;refine(av (bN (jg (l:=s.things) nD (fun x=>decide (x∉rs.flatten.map (tS rz s))) nD rfl (by have:=S.nt;omega) fun h hh=>⟨[some (nD h),some (LN (kvs.map (·.2)))],rfl,ce (ay (a:=nD h) (b:=LN (kvs.map (·.2))) rfl rfl (Di g h)),fun _=>rfl⟩))).trans ?_;refine(av (jG (d:=.lst told) (ds:=[gq rz (rs,s)]) rfl rfl (ak (d:=gq rz (rs,s)) rfl ao) (oP (by omega)))).trans ?_;rfl
def dX:Option (List Nat)->D
|none=>.non
|some l=>LN l
def s0(rz:List (List Nat))(o:Option (List Nat)):Rg.S:=⟨o.getD (a_ rz.length),a_ (rz.headD []).length⟩
theorem Kr{o:Option (List Nat)}(ho:∀l,o=some l->l.Nodup/\(∀k∈l,k<rz.length)/\l.length=rz.length)(h8:rz.length<=60):jm [WD rz,dX o]=.ok (LN (s0 rz o).line):=by cases o with
|none=>exact LQ (by omega)
|some l=>obtain⟨h1,h2,h3⟩:=ho l rfl;exact BG h1 h2 h3 (by omega)
theorem Kt{o:Option (List Nat)}(ho:∀l,o=some l->l.Nodup/\(∀k∈l,k<rz.length)/\l.length=rz.length)(hr:rz≠[])(h8:rz.length<=60)(S:Snd rz oz (s0 rz o)):∃l,Ch rz oz (s0 rz o) l/\l.length<=60/\mw [WD rz,OD oz,dX o]=.ok (.lst (l.map (gq rz))):=by obtain⟨s',l,x',y',z',h1,h2,h3⟩:=Ht (rz:=rz) (oz:=oz) (dX o) 64 (s0 rz o) [] none none none S (by have:=S.nl;omega) (by have:=S.nl;simp;omega);refine⟨l,h1,by have:=S.nl;omega,b5 (B:=o4) (n:=9) ?_⟩;unfold o4;cases rz with
|nil=>exact absurd rfl hr
|cons row rest=>refine(av (bN (aT (ak (d:=WD (row::rest)) rfl (ak (d:=dX o) rfl ao)) (Kr ho h8)))).trans ?_;refine(av (bN (d:=LN (s0 (row::rest) o).things) (bM (ak (aT (ak (d:=WD (row::rest)) rfl ao) BQ) ao) (rD (by have:=S.nt;unfold s0 at this;simp at this;omega))))).trans ?_;refine(av (bN (d:=.lst []) (gy ao (by simp)))).trans ?_;refine(av h3).trans ?_;exact bh (bJ (d:=.lst (l.map (gq (row::rest)))) rfl)
theorem zw:∀(more kvs:List (Nat×Nat)),lV (kvs.map fun p=>(kI p.1,nD p.2)) (more.map fun p=>(kI p.1,nD p.2))=(more.foldl (fun acc p=>putN acc p.1 p.2) kvs).map fun p=>(kI p.1,nD p.2)
|[],kvs=>rfl
|p::more,kvs=>by have ih:=zw more (putN kvs p.1 p.2);rw[List.foldl_cons,<-ih,<-ze];rfl
theorem AW{t:Nat->Nat}:∀(more kvs:List (Nat×Nat))(L:List Nat),GI t kvs L->(∀p∈more,p.2=t p.1)->GI t (more.foldl (fun acc p=>putN acc p.1 p.2) kvs) (L++more.map (·.1))
|[],kvs,L,g,_=>by simpa using g
|p::more,kvs,L,g,h=>by have:=AW more (putN kvs p.1 p.2) (L++[p.1]) (by rw[h p e_];exact g.put p.1) fun q hq=>h q (c_ _ hq);rw[M3]at this;exact this
theorem zP{a:Nat->Nat}{line:List Nat}(hl:line.length<=60)(od:D):∀(l:List (List (List Nat)×Rg.S))(L:List Nat)(kvs:List (Nat×Nat))(z:Option D),GI a kvs L->(∀h∈L,h∈line) ->(∀p∈l,∀h∈p.1.flatten,a h=tS rz p.2 h/\h∈line) ->∃kvs' z',GI a kvs' (L++l.flatMap fun p=>p.1.flatten)/\aF (aS 4) Ca (l.map (gq rz)) [some (WD rz),some (OD oz),some od,some (KD kvs),z]=.nx [some (WD rz),some (OD oz),some od,some (KD kvs'),z']
|[],L,kvs,z,g,_,_=>⟨kvs,z,by simpa using g,eI⟩
|p::l,L,kvs,z,g,hL,hp=>by
  have h0:=hp p e_;obtain⟨more,g1,hg⟩:=Aj (t:=tS rz p.2) (rs:=p.1) hl fun h hh=>(h0 h hh).2;have g2:=g1.congr (t':=a) fun x hx=>(h0 x hx).1;have g3:=(AW more kvs L g g2.val).mem (M:=L++p.1.flatten) fun x=>by rw[M9,M9,g2.key]
  obtain⟨kvs',z',g',ih⟩:=zP hl od l (L++p.1.flatten) _ (some (gq rz p)) g3 (fun h hh=>by
   rcases M9.mp hh with q|q
   .exact hL h q
   .exact(h0 h q).2) fun q hq=>hp q (c_ _ hq)
  refine⟨kvs',z',by rw[M3]at g';simpa using g',?_⟩;rw[<-ih];refine eF (r1:=[some (WD rz),some (OD oz),some od,some (KD kvs),some (gq rz p)]) rfl (av (jG (d:=KD kvs) (ds:=[KD more]) rfl rfl (ak (aT (ak (d:=gq rz p) rfl ao) hg) ao) ?_));have l1:=g.len hL;have l2:=g1.len (line:=line) fun h hh=>(h0 h hh).2;show(if _ then some (D.dic (lV _ _))else none)=_;rw[if_pos (by rw[l_,l_,MU];omega),zw]
theorem GP{a:Nat->Nat}{s:Rg.S}{l:List (List (List Nat)×Rg.S)}(c:Ch rz oz s l):Rg.Ok (Wr rz) (own oz) s->Rg.TTC (Wr rz) (own oz) a s->(∀p∈l,∀h∈p.1.flatten,a h=tS rz p.2 h/\h∈s.line)/\∀h∈s.line,∃p∈l,h∈p.1.flatten:=by induction c with
|nil h0=>exact fun _ _=>⟨fun _ hp=>(nomatch hp),fun h hh=>by rw[h0]at hh;cases hh⟩
|@cons s rs l hp c ih=>
  intro k t;have cy:=A3 hp;obtain⟨t1,t2⟩:=Rg.rJ t k cy;obtain⟨i1,i2⟩:=ih (Rg.oI k cy) t1;refine⟨fun p hp' h hh=>?_,fun h hh=>?_⟩
  .rcases p_.mp hp' with rfl|q
   .exact⟨t2 h hh,cy.sub h hh⟩
   .exact⟨(i1 p q h hh).1,(y_.mp (i1 p q h hh).2).1⟩
  .by_cases hc:h∈rs.flatten
   .exact⟨(rs,s),e_,hc⟩
   .obtain⟨p,h1,h2⟩:=i2 h (y_.mpr ⟨hh,by simpa using hc⟩);exact⟨p,c_ _ h1,h2⟩
theorem Lx{o:Option (List Nat)}{a:Nat->Nat}(ho:∀l,o=some l->l.Nodup/\(∀k∈l,k<rz.length)/\l.length=rz.length)(hr:rz≠[])(h8:rz.length<=60)(S:Snd rz oz (s0 rz o))(hall:∀h,h<rz.length->h∈(s0 rz o).line)(t:Rg.TTC (Wr rz) (own oz) a (s0 rz o)):lf [WD rz,OD oz,dX o]=.ok (TN ((a_ rz.length).map a)):=by
 obtain⟨l,hc,hl,hrun⟩:=Kt ho hr h8 S;obtain⟨c1,c2⟩:=GP hc S.ok t;obtain⟨kvs',z',g,hloop⟩:=zP (rz:=rz) (oz:=oz) (a:=a) S.nl (dX o) l [] [] none ⟨by simp,fun _ hp=>(nomatch hp),fun h=>by simp⟩ (fun _ hh=>(nomatch hh)) c1;refine b5 (B:=mz) (n:=5) ?_;unfold mz;refine(av (r':=[some (WD rz),some (OD oz),some (dX o),some (KD []),none]) rfl).trans ?_;refine(av ((d7 (ds:=l.map (gq rz)) (jL (aT (ak (d:=WD rz) rfl (ak (d:=OD oz) rfl (ak (d:=dX o) rfl ao))) hrun) rfl)).trans hloop)).trans ?_;refine bh (bJ (aT (ak (d:=KD kvs') rfl ao) (Ck g (n:=rz.length) (fun x=>?_) h8)));rw[O8,List.mem_flatMap];constructor
 .rintro⟨p,h1,h2⟩
  exact S.inr x (c1 p h1 x h2).2
 .intro hx;obtain⟨p,h1,h2⟩:=c2 x (hall x hx);exact⟨p,h1,h2⟩
end
theorem kN{a b:Nat}(h:0<b):bi (nD a) (nD b)=some (nD (a%b)):=by rw[rE (by omega:(0:Int)<(b:Int))];show some (D.int _)=some (D.int _);rw[Int.natCast_emod]
theorem oJ{a b:Nat}(h:0<b)(h2:b<1000):iR (nD a) (nD b)=some (nD (a/b)):=by rw[HI (⟨by omega,by omega⟩:gj (a:Int) (b:Int))];show some (D.int _)=some (D.int _);rw[RD]
theorem kQ(a b:Nat):addA (nD a) (nD b)=some (nD (a+b)):=by rw[addA_int];show some (D.int _)=some (D.int _);rw[RQ]
section
variable{f f':FE}{r:aj}
theorem kH{b:Int}(h:∃i:Int,f r=.ok (.int i))(h':f' r=.ok (.int b))(hb:0<b):∃c:Nat,f2 f f' bi r=.ok (nD c):=by obtain⟨i,hi⟩:=h;refine⟨(i%b).toNat,ay hi h' ?_⟩;rw[rE hb];show some (D.int _)=some (D.int _);rw[Pa (Qv _ (by omega))]
theorem CT(h:∃c:Nat,f r=.ok (nD c)):∃i:Int,f r=.ok (.int i):=let⟨c,e⟩:=h;⟨c,e⟩
theorem jF{b:Int}(h:∃i:Int,f r=.ok (.int i))(h':f' r=.ok (.int b))(hb : -(2^64)<b/\b<2^64):∃i:Int,f2 f f' cF r=.ok (.int i):=by obtain⟨i,hi⟩:=h;exact⟨i*b,ay hi h' (GG (.inr hb))⟩
theorem nW(h:∃i:Int,f r=.ok (.int i))(h':∃i:Int,f' r=.ok (.int i)):∃i:Int,f2 f f' addA r=.ok (.int i):=by obtain⟨i,hi⟩:=h;obtain⟨j,hj⟩:=h';exact⟨i+j,ay hi hj rfl⟩
end
theorem wU{m:List Md}{i:Nat}{f:FE}{s2:FS}{r:aj}(h:∃c:Nat,f r=.ok (nD c))(k:∀c:Nat,∃d:Nat,s2 (r.set i (some (nD c)))=.rt (nD d)):∃d:Nat,seqF (ap m i f) s2 r=.rt (nD d):=by obtain⟨c,hc⟩:=h;obtain⟨d,hd⟩:=k c;exact⟨d,(av (bN hc)).trans hd⟩
abbrev IN(ns:List Int):D:=.lst (ns.map .int)
theorem se(ns:List Int)(k:Nat)(hk:k<=1000):∃c:Nat,gH [IN ns,nD k]=.ok (nD c):=by
 suffices h:∃c:Nat,pw (aK 4 [IN ns,nD k])=.rt (nD c)by obtain⟨c,hc⟩:=h;exact⟨c,b5 (B:=pw) (n:=4) hc⟩
 unfold pw;have st:seqF (ap bq 2 (ci 0))=seqF (ap bq 2 (fun _=>Res.ok (nD 0))):=rfl;rw[st];refine wU ⟨0,rfl⟩ fun c1=>?_;show ∃d:Nat,seqF _ _ [some (IN ns),some (nD k),some (nD c1),none]=_;have key:∃c2:Nat,(cG bq (aP (f2 (gv 1) (fC (af (gv 0) aa) lenD) gR)) (seqF (ap bq 2 (f2 (f2 (gv 0) (gv 1) bb) (f2 (ci 10) (ci 60) gQ) bi)) aw) aw) [some (IN ns),some (nD k),some (nD c1),none]=.nx [some (IN ns),some (nD k),some (nD c2),none]:=by
  have t:=ce (ay (f:=gv 1) (r:=[some (IN ns),some (nD k),some (nD c1),none]) (a:=nD k) rfl (bM (ak (f:=gv 0) (d:=IN ns) rfl ao) (jM _ _)) (lH k ns.length));by_cases hlt:k<ns.length
  .rw[decide_eq_true hlt]at t;have hx:(ns.map D.int)[k]? = some (.int ns[k]):=by rw[x_,n_ hlt];rfl
   have hp:gQ (.int 10) (.int 60)=some (.int (10^60)):=by show ii gb _ _ _=_;rw[intsC_int,if_pos (by unfold gb;decide)];rfl
   obtain⟨c2,h2⟩:=kH (f:=f2 (gv 0) (gv 1) bb) (f':=f2 (ci 10) (ci 60) gQ) (r:=[some (IN ns),some (nD k),some (nD c1),none]) ⟨ns[k],ay (a:=IN ns) (b:=nD k) rfl rfl (qz hx)⟩ (ay rfl rfl hp) (by decide);exact⟨c2,(dY t).trans ((av (bN h2)).trans rfl)⟩
  .rw[decide_eq_false hlt]at t;exact⟨c1,(bP t).trans rfl⟩
 obtain⟨c2,h2⟩:=key;rw[av h2];have kq:∃b,(b8 (aP (f2 (fC (af (gv 0) aa) lenD) (ci 0) d9)) (aP (f2 (f2 (f2 (gv 0) (ci 0) bb) (ci 2) bi) (ci 0) eqD))) [some (IN ns),some (nD k),some (nD c2),none]=.ok b:=by have t:=ce (ay (f:=fC (af (gv 0) aa) lenD) (f':=fun _=>Res.ok (D.int 0)) (r:=[some (IN ns),some (nD k),some (nD c2),none]) (b:=nD 0) (bM (ak (d:=IN ns) rfl ao) (jM _ _)) rfl (g4 ns.length 0));cases ns with
 |nil=>exact⟨false,iW t⟩
 |cons a ns=>rw[decide_eq_true (by simp)]at t;obtain⟨c3,h3⟩:=kH (f:=f2 (gv 0) (ci 0) bb) (f':=fun _=>Res.ok (D.int 2)) (r:=[some (IN (a::ns)),some (nD k),some (nD c2),none]) ⟨a,ay (a:=IN (a::ns)) (b:=.int 0) rfl rfl (ixA_L0 _ _)⟩ rfl (by decide);exact⟨_,(il t).trans (ce (ay h3 (b:=nD 0) rfl (iX c3 0)))⟩
 obtain⟨b,hb⟩:=kq;cases b with
|true=>exact⟨c2,bh ((dY hb).trans (bh (bJ (d:=nD c2) rfl)))⟩
|false=>rw[av ((bP (s2:=aw) hb).trans (e_skip _))];refine wU (kH (jF (CT (kH (jF (nW (nW (nW ⟨(c2:Int),rfl⟩ (jF (b:=(k:Int)) (jF (b:=(k:Int)) ⟨7,rfl⟩ rfl (by omega)) rfl (by omega))) (jF (b:=(k:Int)) ⟨13,rfl⟩ rfl (by omega))) ⟨5,rfl⟩) rfl (by decide)) rfl (by decide))) rfl (by decide)) rfl (by decide)) fun c3=>?_;obtain⟨c4,h4⟩:=kH (f:=(f2 (f2 (f2 (f2 (gv 3) (ci 1) addA) (ci 40692) cF) (ci 2147483629) bi) (ci 39373) cF)) (f':=fun _=>Res.ok (D.int 999999937)) (r:=[some (IN ns),some (nD k),some (nD c2),some (nD c3)]) (jF (CT (kH (jF (nW ⟨(c3:Int),rfl⟩ ⟨1,rfl⟩) rfl (by decide)) rfl (by decide))) rfl (by decide)) rfl (by decide);exact⟨c4,bh (bJ h4)⟩
theorem HP{row:List Nat}{i:Int}{x:Nat}:bO (row.map nD) i (nD x)=(bO row i x).map nD:=by unfold bO;rw[l_,MN,G_,QT,SZ]
theorem JJ{row:List Nat}{i:Int}{x:Nat}:(bO row i x).Perm (x::row):=by unfold bO;refine P8.trans ?_;rw[Qz]
theorem AM(m:Nat):∀(j i c:Nat)(row:List Nat)(x:Option D),row.Perm (a_ i)->i+j<=60 ->∃(c':Nat)(row':List Nat)(x':Option D),row'.Perm (a_ (i+j))/\aF (aS 3) B8 ((PH i j).map nD) [some (nD c),some (nD m),some (LN row),x]=.nx [some (nD c'),some (nD m),some (LN row'),x']
|0,i,c,row,x,hp,_=>⟨c,row,x,hp,eI⟩
|j+1,i,c,row,x,hp,hl=>by
  have hlen:row.length=i:=by rw[hp.length_eq];simp
  obtain⟨c',row',x',h1,h2⟩:=AM m j (i+1) (c/(i+1)) (bO row ((c%(i+1):Nat):Int) i) (some (nD i)) (by refine JJ.trans ?_;rw[Oz];exact(List.Perm.cons i hp).trans (Oj i _).symm) (by omega);refine⟨c',row',x',by rw[show i+(j+1)=i+1+j by omega];exact h1,?_⟩;rw[<-h2];have hmod:c%(i+1)<i+1:=Pr _ (by omega);refine eF (r1:=[some (nD c),some (nD m),some (LN row),some (nD i)]) rfl ?_;refine(av (jG (d:=LN row) (ds:=[nD (c%(i+1)),nD i]) (d':=LN (bO row ((c%(i+1):Nat):Int) i)) rfl rfl (ak (ay (a:=nD c) (b:=nD (i+1)) rfl (ay (a:=nD i) (b:=nD 1) rfl rfl (kQ i 1)) (kN (by omega))) (ak (d:=nD i) rfl ao)) ?_)).trans ?_
  .show(if _ then some (D.lst (bO _ _ _))else none)=_;rw[if_pos ⟨by rw[l_,MU];omega,by omega,by omega⟩,HP]
  .exact av (bN (d:=nD (c/(i+1))) (ay (a:=nD c) (b:=nD (i+1)) rfl (ay (a:=nD i) (b:=nD 1) rfl rfl (kQ i 1)) (oJ (by omega) (by omega))))
theorem HB(c m:Nat)(hm:m<=60):∃row:List Nat,row.Perm (a_ m)/\mB [nD c,nD m]=.ok (TN row):=by obtain⟨c',row',x',h1,h2⟩:=AM m m 0 c [] none (by simp) (by omega);rw[Qr]at h1;rw[<-O1]at h2;refine⟨row',h1,b5 (B:=sE) (n:=4) ?_⟩;unfold sE;refine(av (bN (d:=LN []) (gy ao (by simp)))).trans ?_;refine(av ((d7 (ds:=(a_ m).map nD) (gD (ak (d:=nD m) rfl ao) (gA (by omega)))).trans h2)).trans ?_;exact bh (bJ (bM (ak (d:=LN row') rfl ao) rfl))
theorem Kw(ns:List Int)(at' n m:Nat)(ha:at'<=60)(hn:n<=60)(hm:m<=60):∃rz:List (List Nat),rz.length=n/\(∀row∈rz,row.Perm (a_ m))/\pL [IN ns,nD at',nD n,nD m]=.ok (WD rz):=by
 have h:∀h:Nat,∃row:List Nat,h<=60->row.Perm (a_ m)/\∃c:Nat,gH [IN ns,nD (at'+h)]=.ok (nD c)/\mB [nD c,nD m]=.ok (TN row):=by
  intro h;by_cases hh:h<=60
  .obtain⟨c,hc⟩:=se ns (at'+h) (by omega);obtain⟨row,h1,h2⟩:=HB c m hm;exact⟨row,fun _=>⟨h1,c,hc,h2⟩⟩
  .exact⟨[],fun z=>absurd z hh⟩
 obtain⟨g,hg⟩:=P6 h;refine⟨(a_ n).map g,by simp,fun row hr=>?_,b5 (B:=tT) (n:=4) ?_⟩
 .obtain⟨i,hi,rfl⟩:=q_.mp hr;exact(hg i (by have:=k_.mp hi;omega)).1
 .unfold tT;refine bh (bJ (bM (ak (jg (l:=a_ n) nD (fun _=>true) (fun h=>TN (g h)) (gD (ak (d:=nD n) rfl ao) (gA (by omega))) (by simp;omega) fun h hh=>⟨[some (nD h),some (nD m),some (IN ns),some (nD at')],rfl,rfl,fun _=>?_⟩) ao) ?_))
  .obtain⟨_,c,h1,h2⟩:=hg h (by have:=k_.mp hh;omega);exact aT (ak (aT (ak (d:=IN ns) rfl (ak (ay (a:=nD at') (b:=nD h) rfl rfl (kQ at' h)) ao)) h1) (ak (d:=nD m) rfl ao)) h2
  .rw[pe,e_tupL];show some (D.tup _)=some (D.tup _);rw[Mx];rfl
end Law
namespace Law
open PySem PyProof.Rows L2 DL
theorem wT(a b:Nat):eqs (nD a) (nD b)=decide (a=b):=by show(((a:Nat):Int)==(b:Int))=_;rw[Ms,beq_iff_eq,decide_eq_true_iff];exact OY
theorem zH(k:Nat):∀l:List Nat,k∈l->iS (nD k) (l.map nD)=some (l.idxOf k)
|[],h=>by cases h
|a::l,h=>by
  show(if eqs (nD a) (nD k)=true then some 0 else(iS (nD k) (l.map nD)).map (· + 1))=_;rw[wT];by_cases e:a=k
  .rw[if_pos (by simpa using e)];subst e;simp
  .rw[if_neg (by simpa using e),zH k l ((p_.mp h).resolve_left fun z=>e z.symm)];have hf:(a==k)=false:=by simpa using e
   rw[RT,hf];rfl
theorem zG(k:Nat):∀l:List Nat,(l.map nD).eraseIdx (l.idxOf k)=(l.erase k).map nD
|[]=>rfl
|a::l=>by
  by_cases e:a=k
  .subst e;simp
  .rw[RT,List.erase_cons_tail (by simpa using e)];have:(a==k)=false:=by simpa using e
   rw[this];show nD a::(l.map nD).eraseIdx (l.idxOf k)=_;rw[zG k l];rfl
theorem F4{k:Nat}{l:List Nat}(h:k∈l):remD (LN l) [nD k]=some (LN (l.erase k)):=by show(if (l.map nD).all isInt=true then(iS (nD k) (l.map nD)).map fun j=>D.lst ((l.map nD).eraseIdx j)else none)=_;rw[if_pos (by rw[MP];intro x hx;obtain⟨y,_,rfl⟩:=q_.mp hx;rfl),zH k l h];show some (D.lst _)=some (D.lst _);rw[zG]
theorem C4{T:String}{fo:FE}{fl:aj->Res (List D)}{k:D->List D->Option D}{r:aj}{d d':D}{ds:List D}(h1:fo r=.ok d)(ht:qd T d=true)(h2:fl r=.ok ds)(h3:k d ds=some d'):fM T fo fl k r=.ok d':=by unfold fM;rw[h1,bind_ok,if_pos ht,h2,bind_ok,h3];rfl
theorem Bp:∀l l':List Nat,M8 (zcF (l.map nD)) (zcF (l'.map nD))=decide (l=l')
|[],[]=>by simp[zcF,M8]
|[],k::l=>by simp[zcF,M8]
|k::l,[]=>by simp[zcF,M8]
|k::l,k'::l'=>by have ih:=Bp l l';simp only[G_,zcF,aO,M8,OF,ih];rw[Ms];simp;omega
theorem yu{l:List Nat}{k:Nat}:∀d∈l.map nD,bv k d:=by intro d hd;obtain⟨x,_,rfl⟩:=q_.mp hd;cases k <;> trivial
theorem DE(l l':List Nat):ee (TN l) (TN l')=some (decide (l=l')):=by rw[oU rfl (ir.mpr yu) (ir.mpr yu)];unfold iK;simp only[aO,OF,Bp]
theorem yE(l l':List Nat):eqD (TN l) (TN l')=some (.bl (decide (l=l'))):=by unfold eqD;rw[DE];rfl
theorem Hg{l:List Nat}{i:Nat}(h:i<=l.length):nb (LN l) (some (i:Int)) none=some (LN (l.drop i)):=by show some (D.lst (b3 (l.map nD) (some (i:Int)) none))=_;unfold b3;rw[HT.dB,HT.cV,l_,RU h];rw[Qn (by simp)];show some (D.lst _)=some (D.lst ((l.drop i).map nD));rw[SZ]
theorem rG{f:FE}{r:aj}{i:Int}(h:f r=.ok (.int i)):kJ f r=.ok (some i):=by unfold kJ;rw[h];rfl
theorem yv{fa:FE}{fl fh:FP}{r:aj}{d d':D}{lo hi:Option Int}(h1:fa r=.ok d)(h2:fl r=.ok lo)(h3:fh r=.ok hi)(h4:nb d lo hi=some d'):ly fa fl fh r=.ok d':=by unfold ly;rw[h1,bind_ok,h2,bind_ok,h3,bind_ok,h4];rfl
theorem xQ{f f':FE}{r:aj}(h:f r=.ok (.bl true)):jr f f' r=.ok (.bl true):=by unfold jr;rw[h];rfl
theorem xP{f f':FE}{r:aj}(h:f r=.ok (.bl false)):jr f f' r=f' r:=by unfold jr;rw[h];rfl
theorem zo{ds:List D}{i:Nat}{v:D}(h:i<ds.length):dA (.lst ds) (nD i) v=some (.lst (ds.set i v)):=by show(fV ds.length (i:Int)).map _=_;unfold fV;rw[if_pos (N4 i),if_pos (by omega)];simp
theorem ji{nl:Nat}{cap:List Nat}{fi:FI}{ft:FT}{fe:FE}{r:aj}{α:Type}{l:List α}(e:α->D)(g:α->D)(h1:fi r=.ok (l.map e))(hl:l.length<=1000)(h:∀a∈l,∃r1,ft (e a) (a8 nl cap r)=some r1/\fe r1=.ok (g a)):cU nl cap fi ft (fun _=>Res.ok true) fe r=.ok (.lst (l.map g)):=by
 have:=jg (q:=fun _=>Res.ok true) e (fun _=>true) g h1 hl fun a ha=>by obtain⟨r1,q1,q2⟩:=h a ha;exact⟨r1,q1,rfl,fun _=>q2⟩
 rw[this,pe]
end Law
section
set_option exponentiation.threshold 3000
namespace Law
open PySem PyProof.Rows L2 DL Fq
abbrev FR(x:Int×Nat):D:=.tup [.int x.1,nD x.2]
abbrev LF(l:List (Int×Nat)):D:=.lst (l.map FR)
abbrev TF(l:List (Int×Nat)):D:=.tup (l.map FR)
theorem FA:kD=2^2000:=rfl
theorem EQ{a k:Nat}(h:a<2^k)(hk:k<=2000):a<kD:=by rw[FA];exact A_ h (Oi (by omega) hk)
theorem Ay{a:Int}{b k:Nat}(h0:0<b)(h1:b<2^k)(hk:k<=2000):lJ (.int a) (nD b)=some (.int (a/(b:Int))):=by rw[lJ,intsC_int,if_pos ⟨by omega,by rw[Pp];exact EQ h1 hk⟩]
theorem xL(b:Nat):neD (nD b) (.int 0)=some (.bl (! decide (b=0))):=De b 0
theorem HL{m:List Md}:∀(k n:Nat)(a:Int)(b:Nat)(x:Option D),b<2^k->2*k+1<=n ->∃(a':Int)(y:Option D),dm m mZ mY n [some (.int a),some (nD b),x]=.nx [some (.int a'),some (nD 0),y]/\a'.natAbs=NH a b:=by
 have z0:∀(n:Nat)(a:Int)(x:Option D),1<=n->∃(a':Int)(y:Option D),dm m mZ mY n [some (.int a),some (nD 0),x]=.nx [some (.int a'),some (nD 0),y]/\a'.natAbs=NH a 0:=by
  intro n a x hn;obtain⟨n,rfl⟩:∃k,n=k+1:=⟨n-1,by omega⟩
  exact⟨a,x,rR (ce (ay (a:=nD 0) (b:=.int 0) rfl rfl (xL 0))),by simp⟩
 have st:∀(n:Nat)(a:Int)(b:Nat)(x:Option D),0<b->dm m mZ mY (n+1) [some (.int a),some (nD b),x]=dm m mZ mY n [some (nD b),some (nD (a%(b:Int)).toNat),some (nD (a%(b:Int)).toNat)]:=by
  intro n a b x hb;have hne:=xL b;rw[decide_eq_false (by omega)]at hne;refine rS (ce (ay (a:=nD b) (b:=.int 0) rfl rfl hne)) ?_;refine(av (bN (d:=nD (a%(b:Int)).toNat) (ay (a:=.int a) (b:=nD b) rfl rfl ?_))).trans ?_
  .rw[rE (by omega)];show some (D.int _)=some (D.int _);rw[Pa (Qv _ (by omega))]
  refine(av (bN (d:=nD b) rfl)).trans ?_;exact av (bN (d:=nD (a%(b:Int)).toNat) rfl)
 have hr:∀(a:Int)(b:Nat),0<b->(((a%(b:Int)).toNat:Nat):Int)=a%(b:Int)/\(a%(b:Int)).toNat<b:=by intro a b hb;have h1:=Qv a (show(b:Int)≠0 by omega);have h2:=Int.emod_lt_of_pos a (show(0:Int)<b by omega);exact⟨Pa h1,by omega⟩
 intro k
 induction k with
|zero=>
  intro n a b x hb hn;have:b=0:=by have:(2:Nat)^0=1:=rfl;omega
  subst this;exact z0 n a x (by omega)
|succ k ih=>
  intro n a b x hb hn;by_cases h0:b=0
  .subst h0;exact z0 n a x (by omega)
  .have hbp:0<b:=by omega
   obtain⟨n,rfl⟩:∃j,n=j+2:=⟨n-2,by omega⟩
   obtain⟨r1,r2⟩:=hr a b hbp;have e1:=st (n+1) a b x hbp;generalize(a%(b:Int)).toNat=r at r1 r2 e1;rw[e1,AA a b,<-r1];by_cases hz:r=0
   .subst hz;exact z0 (n+1) b _ (by omega)
   .obtain⟨s1,s2⟩:=hr (b:Int) r (by omega);have e2:=st n (b:Int) r (some (nD r)) (by omega);have hs:((b:Int)%(r:Int)).toNat=b%r:=by omega
    rw[hs]at s1 s2 e2;rw[e2,AA (b:Int) r,<-s1];refine ih n (r:Int) (b%r) _ ?_ (by omega);have h3:b%r<r:=Pr _ (by omega);have h4:b%r<=b-r:=by have:=Nat.mod_eq_sub_mod (show r<=b by omega);rw[this];exact Nat.mod_le _ _
    rw[Tj]at hb;omega
theorem Kq{a:Int}{b k:Nat}(hb:b<2^k)(hk:k<=499):m7 [.int a,nD b]=.ok (nD (NH a b)):=by obtain⟨a',y,h1,h2⟩:=HL (m:=cw) k 1000 a b none hb (by omega);refine b5 (B:=uY) (n:=3) ?_;unfold uY;refine(av h1).trans (bh (bJ (bM (ak (d:=.int a') rfl ao) ?_)));show some (D.int (if a'<0 then-a' else a'))=some (D.int _);rw[<-h2];split <;> congr 2 <;> omega
theorem Aw:∀l:List (Int×Nat),M8 (zcF (l.map FR)) (zcF (l.map FR))=true
|[]=>by simp[zcF,M8]
|x::l=>by have ih:=Aw l;simp only[G_,zcF,aO,M8,OF,ih];simp
theorem qK{l:List (Int×Nat)}{k:Nat}:∀d∈l.map FR,bv (k+1) d:=by intro d hd;obtain⟨x,_,rfl⟩:=q_.mp hd;refine ir.mpr ?_;intro e he;simp at he;rcases he with rfl|rfl <;> (cases k <;> trivial)
theorem wQ{α:Type}(p:α->Bool):∀l:List α,im (l.map fun x=>D.bl (p x))=some (l.map p)
|[]=>rfl
|x::l=>by show(im (l.map fun x=>D.bl (p x))).map _=_;rw[wQ p l];rfl
theorem Dv{α:Type}(p:α->Bool)(l:List α):allD [.lst (l.map fun x=>D.bl (p x))]=some (.bl (l.all p)):=by show(im (l.map fun x=>D.bl (p x))).map _=_;rw[wQ];show some (D.bl ((l.map p).all id))=_;rw[List.all_map];rfl
theorem BH(i:Int):jl [.int i]=.ok (.bl true):=rfl
theorem FH{a:Int}{b k:Nat}(hb:b<2^k)(hk:k<=499):m7 [.int a,nD b]=.ok (nD (NH a b)):=Kq hb hk
theorem Ly{t:Int}{b k:Nat}(h0:0<b)(hb:b<2^k)(hk:k<=499):o8 [.int t,nD b]=.ok (FR (low t b)):=by
 refine b5 (B:=sF) (n:=3) ?_;unfold sF;have hg:=zJ t h0;have hgb:NH t b<2^k:=by have h1:NH t b∣b:=P5.mp (NI t b);have:=SX h0 h1;omega
 refine(av ((bP ?_).trans (e_skip _))).trans ?_
 .rw[ke (jd (b:=true) (gE (aT (ak (d:=.int t) rfl ao) (BH t)) rfl)),ke (jd (b:=true) (gE (aT (ak (d:=nD b) rfl ao) (BH b)) rfl))];have:=iX b 0;rw[decide_eq_false (by omega)]at this;exact ce (ay (a:=nD b) (b:=nD 0) rfl rfl this)
 refine(av (bN (aT (ak (d:=.int t) rfl (ak (d:=nD b) rfl ao)) (FH hb hk)))).trans ?_;refine(av ((bP ?_).trans (e_skip _))).trans ?_
 .have:=lH b 0;rw[decide_eq_false (by omega)]at this;exact ce (ay (a:=nD b) (b:=nD 0) rfl rfl this)
 refine bh (bJ (lW (ak (ay (a:=.int t) (b:=nD (NH t b)) rfl rfl (Ay hg hgb (by omega))) (ak (ay (a:=nD b) (b:=nD (NH t b)) rfl rfl (Ay hg hgb (by omega))) ao)) (by simp)))
end Law
end
namespace Law
open PySem PyProof.Rows L2 DL
structure Rws(rz:List (List Nat))(n m:Nat):Prop where
 n1:1<=n
 n7:n<=7
 nm:n<=m
 m8:m<=8
 rl:rz.length=n
 rp:∀row∈rz,row.Perm (a_ m)
section
variable{rz:List (List Nat)}{n m:Nat}
theorem Rws.row(R:Rws rz n m){h:Nat}(hh:h<n):(Wr rz h).Perm (a_ m):=by unfold Wr;rw[n_ (by rw[R.rl];exact hh)];exact R.rp _ (Nr _)
theorem Rws.has(R:Rws rz n m){h x:Nat}(hh:h<n)(hx:x<m):x∈Wr rz h:=(R.row hh).mem_iff.mpr (k_.mpr hx)
theorem Rws.one(R:Rws rz n m){h:Nat}{T:List Nat}(hh:h<n)(hT:0<T.length)(hm:∀x∈T,x<m):∃x∈Wr rz h,x∈T:=⟨T[0],R.has hh (hm _ (Nr _)),Nr _⟩
theorem Rws.best(R:Rws rz n m){h:Nat}{T:List Nat}(hh:h<n)(hT:0<T.length)(hm:∀x∈T,x<m):jo [TN (Wr rz h),LN T]=.ok (nD (Rg.best (Wr rz h) T)):=AN (R.one hh hT hm) (by rw[(R.row hh).length_eq];have:=R.m8;simp;omega)
theorem Rws.inT(R:Rws rz n m){h:Nat}{T:List Nat}(hh:h<n)(hT:0<T.length)(hm:∀x∈T,x<m):Rg.best (Wr rz h) T∈T:=Rg.oQ (R.one hh hT hm)
theorem Rws.at0(R:Rws rz n m):∃r rest,rz=r::rest/\r.length=m:=by cases e:rz with
|nil=>have:=R.rl;have:=R.n1;rw[e]at *;simp at *;omega
|cons r rest=>exact⟨r,rest,rfl,by rw[(R.rp r (by rw[e];exact e_)).length_eq];simp⟩
theorem Rws.things(R:Rws rz n m):fK [WD rz]=.ok (nD m):=by obtain⟨r,rest,e,hl⟩:=R.at0;rw[e,BQ,hl]
theorem Rws.len(R:Rws rz n m):lenD [WD rz]=some (nD n):=by rw[mn,R.rl]
theorem zO(R:Rws rz n m)(d:Nat->Nat)(od:Option D):∀(o L T:List Nat)(kvs:List (Nat×Nat))(y:Option D),Rg.iN (Wr rz) d o T->GI d kvs L->(∀h∈L++o,h<n)->o.length<=T.length->(∀x∈T,x<m) ->∃kvs' T' y',GI d kvs' (L++o)/\aF (aS 4) B9 (o.map nD) [some (WD rz),od,some (LN T),some (KD kvs),y]=.nx [some (WD rz),od,some (LN T'),some (KD kvs'),y']
|[],L,T,kvs,y,_,g,_,_,_=>⟨kvs,T,y,by rw[ML];exact g,eI⟩
|h::o,L,T,kvs,y,s,g,hL,hl,hT=>by
  have hh:h<n:=hL h (by simp);have hp:0<T.length:=by simp at hl;omega
  have hb:=R.best hh hp hT;have hin:=R.inT hh hp hT;rw[s.1]at hb hin;obtain⟨kvs',T',y',g',ih⟩:=zO R d od o (L++[h]) (T.erase (d h)) (putN kvs h (d h)) (some (nD h)) s.2 (g.put h) (by simpa using hL) (by rw[M6 hin];simp at hl;omega) (fun x hx=>hT x (Nw hx));refine⟨kvs',T',y',by simpa using g',?_⟩;rw[<-ih];have hk:=g.len (line:=a_ n) fun x hx=>k_.mpr (hL x (MQ _ hx));have hn7:=R.n7;refine eF (r1:=[some (WD rz),od,some (LN T),some (KD kvs),some (nD h)]) rfl ?_;refine(av (jI (d:=KD kvs) (k:=nD h) (v:=nD (d h)) rfl (aT (ak (ay (a:=WD rz) (b:=nD h) rfl rfl (ij (kP (by rw[R.rl];exact hh)))) (ak (d:=LN T) rfl ao)) hb) rfl (oH (by simp at hk;omega)))).trans ?_;exact av (jG (d:=LN T) (ds:=[nD (d h)]) rfl rfl (ak (ay (a:=KD (putN kvs h (d h))) (b:=nD h) rfl rfl (qy (pf (g.put h).val (((g.put h).key h).mpr (by simp))))) ao) (F4 hin))
theorem Lw(R:Rws rz n m){d:Nat->Nat}{o:List Nat}(hp:o.Perm (a_ n))(s:Rg.iN (Wr rz) d o (a_ m)):mD [WD rz,LN o]=.ok (TN ((a_ n).map d)):=by
 have hn7:=R.n7;have hm8:=R.m8;have hnm:=R.nm;have hlt:∀h∈o,h<n:=fun h hh=>k_.mp (hp.mem_iff.mp hh);have hlen:o.length=n:=by rw[hp.length_eq];simp
 obtain⟨kvs',T',y',g,hl⟩:=zO R d (some (LN o)) o [] (a_ m) [] none s (GI.nil d) (by simpa using hlt) (by simp;omega) (fun x hx=>k_.mp hx);refine b5 (B:=o7) (n:=5) ?_;unfold o7;refine(av (bN (d:=LN (a_ m)) (bM (ak (aT (ak (d:=WD rz) rfl ao) R.things) ao) (rD (by omega))))).trans ?_;refine(av (r':=[some (WD rz),some (LN o),some (LN (a_ m)),some (KD []),none]) rfl).trans ?_;refine(av ((d7 (ds:=o.map nD) (jL (aT (ak (d:=WD rz) rfl (ak (d:=LN o) rfl ao)) (BG (hp.nodup_iff.mpr J_) (by rw[R.rl];exact hlt) (by rw[R.rl];exact hlen) (by rw[R.rl];omega))) rfl)).trans hl)).trans ?_;exact bh (bJ (aT (ak (d:=KD kvs') rfl ao) (Ck g (fun x=>by rw[O8,hp.mem_iff];exact k_) (by omega))))
end
theorem FX{l:List Nat}{i:Nat}(h:i<=l.length):nb (LN l) none (some (i:Int))=some (LN (l.take i)):=by show some (D.lst (b3 (l.map nD) none (some (i:Int))))=_;unfold b3;rw[HT.dB,HT.cV,l_,RU h,Se,Tn];show some (D.lst _)=some (D.lst ((l.take i).map nD));rw[QT]
theorem yW{a b:List Nat}(h:a.length+b.length<=2000):addE (LN a) (LN b)=some (LN (a++b)):=by show(if (a.map nD).length+(b.map nD).length<=sizeLine then some (D.lst (a.map nD++b.map nD))else none)=some (D.lst ((a++b).map nD));rw[if_pos (by rw[l_,l_,MU];omega),MN]
def fc:Nat->Nat
|0=>1
|i+1=>fc i*(i+1)
theorem qt{i:Nat}(h:i<=5):fc i<=120:=by match i,h with
|0,_=>decide
|1,_=>decide
|2,_=>decide
|3,_=>decide
|4,_=>decide
|5,_=>decide
theorem qZ:∀i,0<fc i
|0=>by decide
|i+1=>RK (qZ i) (by omega)
theorem Ko{i:Nat}{row:List Nat}(hp:row.Perm (a_ i))(at':Nat):(row.take at'++[i]++row.drop at').Perm (a_ (i+1)):=by
 have h1:(row.take at'++[i]++row.drop at').Perm (i::row):=by rw[M3,QA];refine P8.trans ?_;rw[Qz]
 refine h1.trans ?_;rw[Oz];exact(List.Perm.cons i hp).trans (Oj i _).symm
theorem Iw{i:Nat}{r:List Nat}(h:r.Perm (a_ (i+1))):∃(row:List Nat)(a:Nat),row.Perm (a_ i)/\a<=i/\r=row.take a++[i]++row.drop a:=by
 have hi:i∈r:=h.mem_iff.mpr (k_.mpr (by omega));obtain⟨A,B,rfl⟩:=List.append_of_mem hi;refine⟨A++B,A.length,?_,?_,?_⟩
 .have h1:(i::(A++B)).Perm (i::a_ i):=by refine P8.symm.trans (h.trans ?_);rw[Oz];exact Oj i _
  exact h1.cons_inv
 .have:=h.length_eq;simp at this;omega
 .rw[List.take_left,List.drop_left];simp
abbrev LL(l:List (List Nat)):D:=.lst (l.map LN)
theorem nN(kd fnd:Option D){i:Nat}{row:List Nat}(hp:row.Perm (a_ i))(hi:i<=10):∀(l:List Nat)(lg:List (List Nat))(y:Option D),(∀a∈l,a<=i)->lg.length+l.length<=200 ->∃(lg':List (List Nat))(y':Option D),lg'.length=lg.length+l.length/\(∀r∈lg',r∈lg\/r.Perm (a_ (i+1)))/\(∀r∈lg,r∈lg')/\(∀a∈l,row.take a++[i]++row.drop a∈lg') /\aF (aS 5) Ce (l.map nD) [kd,fnd,some (nD i),some (LL lg),some (LN row),y]=.nx [kd,fnd,some (nD i),some (LL lg'),some (LN row),y']
|[],lg,y,_,_=>⟨lg,y,rfl,fun r hr=>.inl hr,fun r hr=>hr,fun _ h=>(nomatch h),eI⟩
|a::l,lg,y,ha,hl=>by
  have hlen:row.length=i:=by rw[hp.length_eq];simp
  obtain⟨lg',y',h1,h2,h4,h5,h3⟩:=nN kd fnd hp hi l (lg++[row.take a++[i]++row.drop a]) (some (nD a)) (fun x hx=>ha x (c_ _ hx)) (by simp at hl ⊢;omega);refine⟨lg',y',by rw[h1];simp;omega,fun r hr=>?_,fun r hr=>h4 r (MQ _ hr),fun b hb=>(p_.mp hb).elim (fun e=>by subst e;exact h4 _ (Mr _ (MG.mpr rfl))) (h5 b),Sd ?_ h3⟩
  .rcases h2 r hr with z|z
   .rcases M9.mp z with z|z
    .exact .inl z
    .rw[MG.mp z];exact .inr (Ko hp a)
   .exact .inr z
  .have ha':=ha a e_;refine eF (r1:=[kd,fnd,some (nD i),some (LL lg),some (LN row),some (nD a)]) rfl ?_;refine(av (jG (d:=LL lg) (ds:=[LN (row.take a++[i]++row.drop a)]) (d':=LL (lg++[row.take a++[i]++row.drop a])) rfl rfl (ak (ay (a:=LN (row.take a++[i])) (b:=LN (row.drop a)) (ay (a:=LN (row.take a)) (b:=LN [i]) (yv (d:=LN row) rfl rfl (rG (i:=(a:Int)) rfl) (FX (by omega))) (gy (ak (d:=nD i) rfl ao) (by simp)) (yW (by simp;omega))) (yv (d:=LN row) rfl (rG (i:=(a:Int)) rfl) rfl (Hg (by omega))) (yW (by simp;omega))) ao) ?_)).trans rfl;rw[oP (by simp at hl ⊢;omega)];show some (D.lst _)=some (D.lst _);rw[MN];rfl
theorem nM(kd fnd:Option D){i:Nat}(hi:i<=10):∀(l:List (List Nat))(lg:List (List Nat))(x y:Option D),(∀r∈l,r.Perm (a_ i))->(∀r∈lg,r.Perm (a_ (i+1)))->lg.length+l.length*(i+1)<=200 ->∃(lg':List (List Nat))(x' y':Option D),lg'.length=lg.length+l.length*(i+1)/\(∀r∈lg',r.Perm (a_ (i+1)))/\(∀r∈lg,r∈lg')/\(∀row∈l,∀a,a<=i->row.take a++[i]++row.drop a∈lg') /\aF (aS 4) Cf (l.map LN) [kd,fnd,some (nD i),some (LL lg),x,y]=.nx [kd,fnd,some (nD i),some (LL lg'),x',y']
|[],lg,x,y,_,hg,_=>⟨lg,x,y,by simp,hg,fun _ h=>h,fun _ h=>(nomatch h),eI⟩
|row::l,lg,x,y,hp,hg,hl=>by
  have hr:=hp row e_;have hlen:row.length=i:=by rw[hr.length_eq];simp
  have hm:(row::l).length*(i+1)=l.length*(i+1)+(i+1):=by rw[MM,Tk]
  obtain⟨lg1,y1,h1,h2,h4,h5,h3⟩:=nN kd fnd hr hi (a_ (i+1)) lg y (fun a ha=>by have:=k_.mp ha;omega) (by simp;omega);rw[Oc]at h1;obtain⟨lg',x',y',i1,i2,i4,i5,i3⟩:=nM kd fnd hi l lg1 (some (LN row)) y1 (fun r hr=>hp r (c_ _ hr)) (fun r hr=>(h2 r hr).elim (hg r) id) (by omega);refine⟨lg',x',y',by omega,i2,fun r hr=>i4 r (h4 r hr),fun r hr b hb=>(p_.mp hr).elim (fun e=>by subst e;exact i4 _ (h5 b (k_.mpr (by omega)))) fun h=>i5 r h b hb,Sd ?_ i3⟩;refine eF (r1:=[kd,fnd,some (nD i),some (LL lg),some (LN row),y]) rfl (av ((d7 (ds:=(a_ (i+1)).map nD) (gD (ak (ay (a:=nD i) (b:=nD 1) rfl rfl (kQ i 1)) ao) (gA (by omega)))).trans h3))
theorem nL(kd:Option D):∀(j i:Nat)(fnd:List (List Nat))(x2 x3 x4 x5:Option D),i+j<=5->fnd.length=fc i->(∀r∈fnd,r.Perm (a_ i))->(∀r:List Nat,r.Perm (a_ i)->r∈fnd) ->∃(fnd':List (List Nat))(y2 y3 y4 y5:Option D),fnd'.length=fc (i+j)/\(∀r∈fnd',r.Perm (a_ (i+j)))/\(∀r:List Nat,r.Perm (a_ (i+j))->r∈fnd') /\aF (aS 2) Cg ((PH i j).map nD) [kd,some (LL fnd),x2,x3,x4,x5]=.nx [kd,some (LL fnd'),y2,y3,y4,y5]
|0,i,fnd,x2,x3,x4,x5,_,hl,hp,hc=>⟨fnd,x2,x3,x4,x5,hl,hp,hc,eI⟩
|j+1,i,fnd,x2,x3,x4,x5,hj,hl,hp,hc=>by have hb:fc (i+1)<=120:=qt (by omega);have hfc:fc (i+1)=fc i*(i+1):=rfl;obtain⟨lg,z4,z5,h1,h2,_,h5,h3⟩:=nM kd (some (LL fnd)) (i:=i) (by omega) fnd [] x4 x5 hp (fun r hr=>(nomatch hr)) (by rw[hl,<-hfc];simp;omega);obtain⟨fnd',y2,y3,y4,y5,i1,i2,i4,i3⟩:=nL kd j (i+1) lg (some (nD i)) (some (LL lg)) z4 z5 (by omega) (by rw[h1,hl,hfc];simp) h2 (fun r hr=>by obtain⟨row,b,p1,p2,p3⟩:=Iw hr;rw[p3];exact h5 row (hc row p1) b p2);refine⟨fnd',y2,y3,y4,y5,by rw[show i+(j+1)=i+1+j by omega];exact i1,by rw[show i+(j+1)=i+1+j by omega];exact i2,by rw[show i+(j+1)=i+1+j by omega];exact i4,Sd ?_ i3⟩;refine eF (r1:=[kd,some (LL fnd),some (nD i),x3,x4,x5]) rfl ?_;refine(av (bN (d:=LL []) (gy ao (by simp)))).trans ?_;refine(av ((d7 (ds:=fnd.map LN) rfl).trans h3)).trans ?_;exact av (bN (d:=LL lg) rfl)
theorem Hy{k:Nat}(hk:k<=5):∃rs:List (List Nat),(∀r:List Nat,r∈rs↔r.Perm (a_ k))/\rs.length=fc k/\jj [nD k]=.ok (LL rs):=by obtain⟨fnd,y2,y3,y4,y5,h1,h2,h4,h3⟩:=nL (some (nD k)) k 0 [[]] none none none none (by omega) rfl (fun r hr=>by rw[MG.mp hr];simp) (fun r hr=>by rw[List.perm_nil.mp (show r.Perm []from hr)];exact MG.mpr rfl);rw[Qr]at h1 h2 h4;rw[<-O1]at h3;refine⟨fnd,fun r=>⟨h2 r,h4 r⟩,h1,b5 (B:=sY) (n:=6) ?_⟩;unfold sY;refine(av (bN (d:=LL [[]]) (gy (ak (gy ao (by simp)) ao) (by simp)))).trans ?_;refine(av ((d7 (ds:=(a_ k).map nD) (gD (ak (d:=nD k) rfl ao) (gA (by omega)))).trans h3)).trans ?_;exact bh (bJ (d:=LL fnd) rfl)
end Law
section
set_option exponentiation.threshold 3000
namespace Law
open PySem PyProof.Rows L2 DL Fq
theorem GS(l:List Nat)(t:Nat):ox (LN l) [nD t]=some (nD (l.count t)):=by
 show(if cI (nD t)=true/\(l.map nD).all cI=true then some (D.int (((l.map nD).countP fun z=>eqs z (nD t):Nat):Int))else none)=_;rw[if_pos ⟨rfl,qu l⟩,N6];show some (D.int ((l.countP ((fun z=>eqs z (nD t))∘nD):Nat):Int))=some (D.int ((l.count t:Nat):Int));have:(fun z=>eqs z (nD t))∘nD=fun z=>z==t:=by funext z;show eqs (nD z) (nD t)=_;rw[wT];by_cases h:z=t <;> simp[h]
 rw[this];rfl
abbrev dh(l:List (List (Int×Nat))):D:=.tup (l.map TF)
abbrev ju(l:List (List (Int×Nat))):D:=.lst (l.map TF)
def col(dls:List (List Nat))(i:Nat):List Nat:=dls.map fun dl=>dl.getD i 0
def dq(dls:List (List Nat))(m h:Nat):List (Int×Nat):=(a_ m).map fun t=>low (((col dls h).count t:Nat):Int) dls.length
theorem zW{dls:List (List Nat)}{n m:Nat}(hN:0<dls.length)(hN2:dls.length<=120)(hd:∀dl∈dls,dl.length=n)(hm:m<=60):∀(j i:Nat)(tb:List (List (Int×Nat)))(x y:Option D),i+j<=n->n<=60->tb.length=i ->∃x' y',aF (aS 3) Cs ((PH i j).map nD) [some (.lst (dls.map TN)),some (nD m),some (ju tb),x,y]=.nx [some (.lst (dls.map TN)),some (nD m),some (ju (tb++(PH i j).map (dq dls m))),x',y']
|0,i,tb,x,y,_,_,_=>⟨x,y,by rw[show(PH i 0).map (dq dls m)=[]from rfl,ML];exact eI⟩
|j+1,i,tb,x,y,hij,hn,hl=>by
  obtain⟨x',y',ih⟩:=zW hN hN2 hd hm j (i+1) (tb++[dq dls m i]) (some (nD i)) (some (LN (col dls i))) (by omega) hn (by simp[hl]);refine⟨x',y',?_⟩;rw[M3,QA]at ih;rw[List.range'_succ,G_,G_,<-ih];refine eF (r1:=[some (.lst (dls.map TN)),some (nD m),some (ju tb),some (nD i),y]) rfl ?_;refine(av (bN (d:=LN (col dls i)) ?_)).trans ?_
  .have:=ji (nl:=1) (cap:=[3]) (fi:=aV b9 (gv 0)) (ft:=aS 0) (fe:=f2 (gv 0) (gv 1) bb) (r:=[some (.lst (dls.map TN)),some (nD m),some (ju tb),some (nD i),y]) (l:=dls) TN (fun dl=>nD (dl.getD i 0)) rfl (by omega) fun dl hdl=>⟨[some (TN dl),some (nD i)],rfl,ay (a:=TN dl) (b:=nD i) rfl rfl (ij ?_)⟩
   .rw[this];show Res.ok (D.lst _)=Res.ok (D.lst _);unfold col;rw[Mx];rfl
   .have hi:i<dl.length:=by rw[hd dl hdl];omega
    rw[x_,n_ hi,u_,n_ hi];rfl
  have ef:ju (tb++[dq dls m i])=D.lst (tb.map TF++[TF (dq dls m i)]):=by show D.lst ((tb++[dq dls m i]).map TF)=_;rw[MN];rfl
  rw[ef];refine av (jG (d:=ju tb) (ds:=[TF (dq dls m i)]) rfl rfl (ak (bM (ak (ji (l:=a_ m) nD (fun t=>FR (low (((col dls i).count t:Nat):Int) dls.length)) (gD (ak (d:=nD m) rfl ao) (gA (by omega))) (by simp;omega) fun t ht=>⟨[some (nD t),some (.lst (dls.map TN)),some (LN (col dls i))],rfl,?_⟩) ao) ?_) ao) (oP (by rw[l_];omega)))
  .exact aT (ak (C4 (d:=LN (col dls i)) rfl rfl (ak (d:=nD t) rfl ao) (GS (col dls i) t)) (ak (bM (ak (d:=.lst (dls.map TN)) rfl ao) (jM _ _)) ao)) (Ly (t:=(((col dls i).count t:Nat):Int)) (k:=7) hN (by omega) (by omega))
  .rw[e_tupL];show some (D.tup _)=some (D.tup ((dq dls m i).map FR));unfold dq;rw[Mx];rfl
theorem Co{dls:List (List Nat)}{n m:Nat}(hN:0<dls.length)(hN2:dls.length<=120)(hd:∀dl∈dls,dl.length=n)(hm:m<=60)(hn:n<=60):k9 [.lst (dls.map TN),nD m]=.ok (dh ((a_ n).map (dq dls m))):=by obtain⟨x',y',h⟩:=zW hN hN2 hd hm n 0 [] none none (by omega) hn rfl;rw[<-O1,O8]at h;refine b5 (B:=tx) (n:=5) ?_;unfold tx;refine(av (bN (d:=ju []) (gy ao (by simp)))).trans ?_;cases hx:dls with
|nil=>rw[hx]at hN;simp at hN
|cons d0 rest=>have h0:d0.length=n:=hd d0 (by rw[hx];exact e_);rw[<-hx];refine(av ((d7 (ds:=(a_ n).map nD) (gD (ak (bM (ak (ay (a:=.lst (dls.map TN)) (b:=.int 0) (d:=TN d0) rfl rfl (by rw[hx];exact ixA_L0 _ _)) ao) (by rw[mn,h0])) ao) (gA (by omega)))).trans h)).trans ?_;exact bh (bJ (bM (ak (d:=ju ((a_ n).map (dq dls m))) rfl ao) rfl))
theorem oS{m:List Md}{f:FE}{r:aj}{d:D}(h:f r=.ok d):fF m f r=.nx r:=by unfold fF;rw[h];rfl
section
variable{rz:List (List Nat)}{n m:Nat}
def fu(rz:List (List Nat))(n m:Nat)(o:List Nat):List Nat:=(a_ n).map (Rg.aL (Wr rz) o (a_ m))
theorem FF(R:Rws rz n m){o:List Nat}(hp:o.Perm (a_ n)):mD [WD rz,LN o]=.ok (TN (fu rz n m o)):=Lw R hp (Rg.qP o (a_ m) (hp.nodup_iff.mpr J_))
theorem BP(R:Rws rz n m)(h5:n<=5):ll [WD rz]=.ok .non:=by
 show aq false (pZ (aK 1 [WD rz]))=_;have:pZ (aK 1 [WD rz])=.nx [some (WD rz)]:=by unfold pZ;have hg:=g4 n 5;rw[decide_eq_false (by omega)]at hg;exact av ((bP (ce (ay (b:=nD 5) (bM (ak (d:=WD rz) rfl ao) R.len) rfl hg))).trans (e_skip _))
 rw[this];rfl
def bH(rs:List (List Nat))(rz:List (List Nat))(n m:Nat):List (List (Int×Nat)):=(a_ n).map (dq (rs.map (fu rz n m)) m)
theorem HA(R:Rws rz n m)(h5:n<=5){rs:List (List Nat)}(h1:∀r∈rs,r.Perm (a_ n))(h2:rs.length=fc n)(h3:jj [nD n]=.ok (LL rs)):n6 [WD rz]=.ok (dh (bH rs rz n m)):=by
 have hfc:=qt h5;have hfp:=qZ n;have hm8:=R.m8;refine b5 (B:=ql) (n:=2) ?_;unfold ql;refine(av (oS (aT (ak (d:=WD rz) rfl ao) (BP R h5)))).trans ?_;refine(av (bN (ji (l:=rs) LN (fun o=>TN (fu rz n m o)) (jL (aT (ak (bM (ak (d:=WD rz) rfl ao) R.len) ao) h3) rfl) (by omega) fun o ho=>⟨[some (LN o),some (WD rz)],rfl,aT (ak (d:=WD rz) rfl (ak (d:=LN o) rfl ao)) (FF R (h1 o ho))⟩))).trans ?_;have e:rs.map (fun o=>TN (fu rz n m o))=(rs.map (fu rz n m)).map TN:=by rw[Mx];rfl
 rw[e];refine bh (bJ (aT (ak (d:=.lst ((rs.map (fu rz n m)).map TN)) rfl (ak (aT (ak (d:=WD rz) rfl ao) R.things) ao)) (Co (by rw[l_];omega) (by rw[l_];omega) (fun dl hdl=>?_) (by omega) (by omega))));obtain⟨o,_,rfl⟩:=q_.mp hdl;unfold fu;simp
end
end Law
end
section
set_option exponentiation.threshold 3000
namespace Law
open PySem PyProof.Rows L2 DL Fq
section
variable{rz:List (List Nat)}{n m:Nat}{rs:List (List Nat)}
theorem yO{h:Nat}(hh:h<n):bb (dh (bH rs rz n m)) (nD h)=some (TF (dq (rs.map (fu rz n m)) m h)):=by refine ij ?_;unfold bH;rw[x_,x_,MZ hh];rfl
theorem HC{o:List Nat}{h:Nat}(hh:h<n):(fu rz n m o).getD h 0=Rg.aL (Wr rz) o (a_ m) h:=by unfold fu;rw[u_,x_,MZ hh];rfl
theorem oR{h:Nat}(hh:h<n)(t:Nat):(col (rs.map (fu rz n m)) h).count t=rs.countP fun o=>decide (Rg.aL (Wr rz) o (a_ m) h=t):=by unfold col;rw[Mx,QM,N6];refine Od fun o _=>?_;simp only[MR,HC hh];simp
end
end Law
end
section
set_option exponentiation.threshold 3000
namespace Law
open PySem PyProof.Rows L2 DL Fq
theorem A0(w:List Nat):own (w.map some)=fun k=>w[k]?:=by funext k;unfold own;rw[x_];cases w[k]? <;> rfl
theorem Fv(w:List Nat):OD (w.map some)=TN w:=by show D.tup _=D.tup _;rw[Mx];rfl
section
variable{rz:List (List Nat)}{n:Nat}
theorem Rws.hW(R:Rws rz n n):∀h,h<n->∀x,x<n->x∈Wr rz h:=fun h hh x hx=>R.has hh hx
theorem Rws.s0(R:Rws rz n n):Law.s0 rz none=⟨a_ n,a_ n⟩:=by obtain⟨r,rest,e,hl⟩:=R.at0;unfold Law.s0;rw[R.rl,e];show Rg.S.mk (a_ n) (a_ r.length)=_;rw[hl]
def rw'(rz:List (List Nat))(n:Nat)(w:List Nat):Nat->Nat:=Rg.kn (Wr rz) (fun k=>w[k]?) (n+1) ⟨a_ n,a_ n⟩
def hG(rz:List (List Nat))(n:Nat)(w:List Nat):List Nat:=(a_ n).map (rw' rz n w)
theorem zg(rz:List (List Nat))(n:Nat)(w:List Nat):Rg.TTC (Wr rz) (fun k=>w[k]?) (rw' rz n w) ⟨a_ n,a_ n⟩:=Rg.D5 (n+1) _ (by simp)
theorem JP(R:Rws rz n n){w:List Nat}(hw:w.Perm (a_ n)):lf [WD rz,TN w,.non]=.ok (TN (hG rz n w)):=by
 have hn7:=R.n7;have hn1:=R.n1;have hs:=R.s0;have ok:=Rg.qH (W:=Wr rz) R.hW hw;have lw:w.length=n:=by rw[hw.length_eq];simp
 have S:Snd rz (w.map some) (Law.s0 rz none):=by rw[hs];refine⟨by rw[A0];exact ok,fun h hh=>by rw[R.rl];exact k_.mp hh,fun h hh=>by rw[l_,lw];exact k_.mp hh,fun h hh=>?_,by simp;omega,by simp;omega⟩;rw[(R.row (k_.mp hh)).length_eq];simp;omega
 have:=Lx (rz:=rz) (oz:=w.map some) (o:=none) (a:=rw' rz n w) (fun l e=>(nomatch e)) (by intro e;have:=R.rl;rw[e]at this;simp at this;omega) (by rw[R.rl];omega) S (fun h hh=>by rw[hs];exact k_.mpr (by rw[<-R.rl];exact hh)) (by rw[hs,A0];exact zg rz n w);rw[Fv,R.rl]at this;exact this
theorem Ku(R:Rws rz n n):qc [WD rz]=.ok .non:=by
 have hq:jS [WD rz]=.ok (.bl true):=by refine b5 (B:=mR) (n:=1) ?_;unfold mR;exact bh (bJ (ay (aT (ak (d:=WD rz) rfl ao) R.things) (bM (ak (d:=WD rz) rfl ao) R.len) (rZ n)))
 show aq false (qb (aK 1 [WD rz]))=_;have:qb (aK 1 [WD rz])=.nx [some (WD rz)]:=by unfold qb;exact av ((bP (jd (b:=true) (gE (aT (ak (d:=WD rz) rfl ao) hq) rfl))).trans (e_skip _))
 rw[this];rfl
def kb(rs:List (List Nat))(rz:List (List Nat))(n:Nat):List (List (Int×Nat)):=(a_ n).map (dq (rs.map (hG rz n)) n)
theorem Lc(R:Rws rz n n)(h5:n<=5){rs:List (List Nat)}(h1:∀r∈rs,r.Perm (a_ n))(h2:rs.length=fc n)(h3:jj [nD n]=.ok (LL rs)):pT [WD rz]=.ok (dh (kb rs rz n)):=by
 have hfc:=qt h5;have hfp:=qZ n;refine b5 (B:=uC) (n:=2) ?_;unfold uC;refine(av (oS (aT (ak (d:=WD rz) rfl ao) (Ku R)))).trans ?_;refine(av (oS (aT (ak (d:=WD rz) rfl ao) (BP R h5)))).trans ?_;refine(av (bN (ji (l:=rs) LN (fun w=>TN (hG rz n w)) (jL (aT (ak (bM (ak (d:=WD rz) rfl ao) R.len) ao) h3) rfl) (by omega) fun w hw=>⟨[some (LN w),some (WD rz)],rfl,aT (ak (d:=WD rz) rfl (ak (bM (ak (d:=LN w) rfl ao) (e_tupL _)) ao)) (JP R (h1 w hw))⟩))).trans ?_;have e:rs.map (fun w=>TN (hG rz n w))=(rs.map (hG rz n)).map TN:=by rw[Mx];rfl
 rw[e];refine bh (bJ (aT (ak (d:=.lst ((rs.map (hG rz n)).map TN)) rfl (ak (aT (ak (d:=WD rz) rfl ao) R.things) ao)) (Co (by rw[l_];omega) (by rw[l_];omega) (fun dl hdl=>?_) (by omega) (by omega))));obtain⟨o,_,rfl⟩:=q_.mp hdl;unfold hG;simp
theorem qY:∀i,fc i=Rg.nJ i
|0=>rfl
|i+1=>by show fc i*(i+1)=Rg.nJ i*(i+1);rw[qY i]
theorem Gg(R:Rws rz n n)(h5:n<=5){rs:List (List Nat)}(h1:∀r:List Nat,r∈rs↔r.Perm (a_ n))(h2:rs.length=fc n):kb rs rz n=bH rs rz n n:=by
 have hn:=Rg.xF h5 h1 (by rw[h2,qY]);unfold kb bH;refine MB fun h hh=>?_;unfold dq;refine MB fun t _=>?_;have hh:=k_.mp hh;rw[l_,l_,oR hh,<-Rg.Fu R.hW hn h1 (rw' rz n) (fun w _=>zg rz n w) hh t];congr 2;unfold col;rw[Mx,QM,N6];refine Od fun o _=>?_;have e:((fun dl:List Nat=>dl.getD h 0)∘hG rz n) o=rw' rz n o h:=by show(hG rz n o).getD h 0=_;unfold hG;rw[u_,x_,MZ hh];rfl
 simp only[MR]at e ⊢;rw[e];simp
end
end Law
end
section
set_option exponentiation.threshold 3000
namespace Law
open PySem PyProof.Rows L2 DL Fq
theorem iq{s1 s2:FS}{r r':aj}{x:D}(h:s1 r=.exc x r'):seqF s1 s2 r=.exc x r':=by unfold seqF;rw[h]
theorem l9{B:FS}{n:Nat}{ds:List D}{x:D}{r':aj}(h:B (aK n ds)=.exc x r'):aq false (B (aK n ds))=.exc x:=by rw[h];rfl
theorem lZ{m:List Md}{f:FE}{r:aj}{d:D}(h:f r=.exc d):fF m f r=.exc d (forget m r):=by unfold fF;rw[h];rfl
theorem Ad{m:List Md}{nm:Str}{fl:aj->Res (List D)}{r:aj}{d:D}(h:fl r=.ok [d]):gJ m nm fl r=.exc (xD nm []) (forget m r):=by unfold gJ;rw[h,onE_ok];rfl
theorem kY{fl:aj->Res (List D)}{F:List D->Res D}{r:aj}{ds:List D}{x:Res D}(h:fl r=.ok ds)(h2:F (ds++[])=x):dP fl [] F r=x:=by unfold dP;rw[h];exact h2
theorem zZ{m1:List Md}{i:Nat}{h1:Str->Bool}{fb f1:FS}{r r' r2:aj}{nm:Str}{ds:List (Str×D)}(h:fb r=.exc (xD nm ds) r')(hh:h1 nm=true)(hs:f1 (r'.set i (some (xD nm ds)))=.nx r2):fL m1 i h1 fb f1 r=.nx (r2.set i none):=by unfold fL;rw[h];show(if h1 nm=true then(match f1 (r'.set i (some (xD nm ds)))with|.nx r2=>Out.nx (r2.set i none)|_=>.stuck)else _)=_;rw[if_pos hh,hs]
abbrev B3(a b c:Bool):D:=.lst [.bl a,.bl b,.bl c]
theorem qG(a b c:Bool):neD (B3 a b c) (B3 a b c)=some (.bl false):=by
 have sh:bv 60 (B3 a b c):=rQ.mpr fun d hd=>by simp only[p_,P9,or_false]at hd;rcases hd with rfl|rfl|rfl <;> trivial
 unfold neD;rw[oU rfl sh sh];unfold iK;simp[aO,zcF,OF,M8]
section
variable{rz:List (List Nat)}{n m:Nat}
theorem zy(R:Rws rz n m)(h:5<n):lp [WD rz]=.exc (xD "TooMany" []):=by have hg:=g4 n 5;rw[decide_eq_true h]at hg;exact l9 (B:=vB) (n:=1) (iq ((dY (ce (ay (b:=nD 5) (bM (ak (d:=WD rz) rfl ao) R.len) rfl hg))).trans (iq (Ad (d:=.str "there must be at most five hands") rfl))))
theorem yw(R:Rws rz n m):jS [WD rz]=.ok (.bl (decide (m=n))):=by refine b5 (B:=mR) (n:=1) ?_;unfold mR;exact bh (bJ (ay (aT (ak (d:=WD rz) rfl ao) R.things) (bM (ak (d:=WD rz) rfl ao) R.len) (iX m n)))
theorem JA(R:Rws rz n m)(h:n<m):m4 [WD rz]=.exc (xD "NotSquare" []):=by have e:=yw R;rw[decide_eq_false (by omega)]at e;exact l9 (B:=lj) (n:=1) (iq ((dY (jd (b:=false) (gE (d:=.bl false) (aT (ak (d:=WD rz) rfl ao) e) rfl))).trans (iq (Ad (d:=.str "there must be as many things as hands") rfl))))
theorem Kf(R:Rws rz n m)(h:m=n):m4 [WD rz]=.ok .non:=by
 have e:=yw R;rw[decide_eq_true h]at e;show aq false (lj (aK 1 [WD rz]))=_;have:lj (aK 1 [WD rz])=.nx [some (WD rz)]:=by unfold lj;exact av ((bP (jd (b:=true) (gE (aT (ak (d:=WD rz) rfl ao) e) rfl))).trans (e_skip _))
 rw[this];rfl
theorem EW(R:Rws rz n m)(h:5<n):kS [WD rz]=.exc (xD "TooMany" []):=l9 (B:=rK) (n:=2) (iq (lZ (kY (ak (d:=WD rz) rfl ao) (zy R h))))
theorem KW(R:Rws rz n m)(h:n<m):jW [WD rz]=.exc (xD "NotSquare" []):=l9 (B:=m5) (n:=2) (iq (lZ (kY (ak (d:=WD rz) rfl ao) (JA R h))))
theorem KY(R:Rws rz n m)(h:5<n)(e:m=n):jW [WD rz]=.exc (xD "TooMany" []):=by refine l9 (B:=m5) (n:=2) (r':=forget cu [some (WD rz),none]) ?_;unfold m5;refine(av (oS (kY (ak (d:=WD rz) rfl ao) (Kf R e)))).trans ?_;exact iq (lZ (kY (ak (d:=WD rz) rfl ao) (zy R h)))
theorem Ak{B:FS}{n:Nat}{ds:List D}{d:D}(h:B (none::aK n ds)=.rt d):aq false (B (none::aK n ds))=.ok d:=by rw[h];rfl
theorem Hu{a b c:Bool}{nm:Str}(h:kS [WD rz]=.exc (xD nm []))(hh:jk nm=true)(h1:iz nm=some a)(h2:iu nm=some b)(h3:iw nm=some c):m6 [WD rz]=.ok (B3 a b c):=by
 refine Ak (B:=pP) (n:=3) ?_;unfold pP;refine(av (r':=[none,some (WD rz),some .non,none]) rfl).trans ?_;refine(av (r':=[none,none,some (xD nm []),none]) ((zZ (nm:=nm) (ds:=[]) (r':=[none,none,some .non,none]) (r2:=[none,none,some (xD nm []),some (xD nm [])]) ?_ hh ?_).trans rfl)).trans ?_
 .exact iq (lZ (kY (ak (d:=WD rz) rfl ao) h))
 .exact av (bN (d:=xD nm []) rfl)
 .have g:∀{tab:Str->Option Bool}{b:Bool},tab nm=some b->f1 (gv 2) (cN tab) [none,none,some (xD nm []),none]=.ok (.bl b):=fun h=>qr (a:=xD nm []) rfl (by show(_:Option Bool).map D.bl=_;rw[h];rfl);exact bh (bJ (gy (ak (g h1) (ak (g h2) (ak (g h3) ao))) (by simp)))
theorem Ae{a b c:Bool}{nm:Str}(h:jW [WD rz]=.exc (xD nm []))(hh:jk nm=true)(h1:iz nm=some a)(h2:iu nm=some b)(h3:iw nm=some c):jU [WD rz]=.ok (B3 a b c):=by
 refine Ak (B:=pX) (n:=3) ?_;unfold pX;refine(av (r':=[none,some (WD rz),some .non,none]) rfl).trans ?_;refine(av (r':=[none,none,some (xD nm []),none]) ((zZ (nm:=nm) (ds:=[]) (r':=[none,none,some .non,none]) (r2:=[none,none,some (xD nm []),some (xD nm [])]) ?_ hh ?_).trans rfl)).trans ?_
 .exact iq (lZ (kY (ak (d:=WD rz) rfl ao) h))
 .exact av (bN (d:=xD nm []) rfl)
 .have g:∀{tab:Str->Option Bool}{b:Bool},tab nm=some b->f1 (gv 2) (cN tab) [none,none,some (xD nm []),none]=.ok (.bl b):=fun h=>qr (a:=xD nm []) rfl (by show(_:Option Bool).map D.bl=_;rw[h];rfl);exact bh (bJ (gy (ak (g h1) (ak (g h2) (ak (g h3) ao))) (by simp)))
theorem Jd(R:Rws rz n m)(h:5<n):m6 [WD rz]=.ok (B3 true false true):=Hu (EW R h) (by decide+kernel) (by decide+kernel) (by decide+kernel) (by decide+kernel)
theorem J7(R:Rws rz n m)(h:n<m):jU [WD rz]=.ok (B3 false true true):=Ae (KW R h) (by decide+kernel) (by decide+kernel) (by decide+kernel) (by decide+kernel)
theorem J8(R:Rws rz n m)(h:5<n)(e:m=n):jU [WD rz]=.ok (B3 true false true):=Ae (KY R h e) (by decide+kernel) (by decide+kernel) (by decide+kernel) (by decide+kernel)
end
end Law
end
section
set_option exponentiation.threshold 3000
namespace Law
open PySem PyProof.Rows L2 DL Fq
theorem yF(l:List (Int×Nat)):OF (aO (TF l)) (aO (TF l))=true:=by simp only[aO,OF];exact Aw l
theorem Bo:∀t:List (List (Int×Nat)),M8 (zcF (t.map TF)) (zcF (t.map TF))=true
|[]=>by simp[zcF,M8]
|l::t=>by have h1:=yF l;have h2:=Bo t;simp only[G_,zcF,M8,h1,h2,Bool.and_self]
theorem GV(t:List (List (Int×Nat))):eqD (dh t) (dh t)=some (.bl true):=by
 have sh:bv 60 (dh t):=ir.mpr fun d hd=>by obtain⟨l,_,rfl⟩:=q_.mp hd;exact ir.mpr qK
 unfold eqD;rw[oU rfl sh sh];unfold iK;simp only[aO,OF,Bo];rfl
theorem ET(l:List (Int×Nat)):neD (TF l) (TF l)=some (.bl false):=by unfold neD;rw[oU rfl (ir.mpr qK) (ir.mpr qK)];unfold iK;rw[yF];rfl
section
variable{rz:List (List Nat)}{n m:Nat}{rs:List (List Nat)}
theorem HW(hn:rs.Nodup)(h1:∀r:List Nat,r∈rs↔r.Perm (a_ n)){a b:Nat}(ha:a<n)(hb:b<n)(e:Wr rz a=Wr rz b):dq (rs.map (fu rz n m)) m a=dq (rs.map (fu rz n m)) m b:=by unfold dq;refine MB fun t _=>?_;rw[oR ha,oR hb,Rg.y0 (a_ m) ha hb e hn h1 t]
theorem GC{n c:Nat}(h1:1<=n)(h5:n<=5)(e:n*c=fc n):low (c:Int) (fc n)=((1:Int),n):=by match n,h1,h5 with
|1,_,_=>
  have e:1*c=1:=e;have:c=1:=by omega
  subst this;decide
|2,_,_=>
  have e:2*c=2:=e;have:c=1:=by omega
  subst this;decide
|3,_,_=>
  have e:3*c=6:=e;have:c=2:=by omega
  subst this;decide
|4,_,_=>
  have e:4*c=24:=e;have:c=6:=by omega
  subst this;decide
|5,_,_=>
  have e:5*c=120:=e;have:c=24:=by omega
  subst this;decide
theorem HY{n:Nat}(h5:n<=5):low 0 (fc n)=((0:Int),1):=by match n,h5 with
|0,_=>decide
|1,_=>decide
|2,_=>decide
|3,_=>decide
|4,_=>decide
|5,_=>decide
def bu(n:Nat)(S:List Nat)(x:Nat):Int×Nat:=if x∈S then(1,n)else(0,1)
theorem IG(R:Rws rz n m)(h5:n<=5)(hn:rs.Nodup)(h1:∀r:List Nat,r∈rs↔r.Perm (a_ n))(h2:rs.length=fc n)(hW:∀h,h<n->Wr rz h=Wr rz 0){h:Nat}(hh:h<n):dq (rs.map (fu rz n m)) m h=(a_ m).map (bu n ((Wr rz 0).take n)):=by
 have h0:0<n:=R.n1;unfold dq;refine MB fun t _=>?_;rw[l_,oR hh,h2];unfold bu;by_cases z:t∈(Wr rz 0).take n
 .rw[if_pos z];exact GC R.n1 h5 (by rw[Rg.D3 (R.row h0) R.nm hW hn h1 hh z,h2])
 .rw[if_neg z,Rg.D4 (R.row h0) R.nm hW (fun r hr=>(h1 r).mp hr) hh z];exact HY h5
theorem nG(R:Rws rz n m)(hn:rs.Nodup)(h1:∀r:List Nat,r∈rs↔r.Perm (a_ n)){h:Nat}(hh:h<n)(x2 x3 x6 x7:Option D):∀(l:List Nat)(y:Option D),(∀x∈l,x<n) ->∃y',aF (aS 5) CA (l.map nD) [some (WD rz),some (dh (bH rs rz n m)),x2,x3,some (nD h),y,x6,x7]=.nx [some (WD rz),some (dh (bH rs rz n m)),x2,x3,some (nD h),y',x6,x7]
|[],y,_=>⟨y,eI⟩
|o::l,y,hl=>by
  obtain⟨y',ih⟩:=nG R hn h1 hh x2 x3 x6 x7 l (some (nD o)) fun x hx=>hl x (c_ _ hx);refine⟨y',?_⟩;rw[<-ih];have ho:=hl o e_;refine eF (r1:=[some (WD rz),some (dh (bH rs rz n m)),x2,x3,some (nD h),some (nD o),x6,x7]) rfl ?_;have t1:aP (f2 (f2 (gv 0) (gv 4) bb) (f2 (gv 0) (gv 5) bb) eqD) [some (WD rz),some (dh (bH rs rz n m)),x2,x3,some (nD h),some (nD o),x6,x7]=.ok (decide (Wr rz h=Wr rz o)):=ce (ay (ay (a:=WD rz) (b:=nD h) rfl rfl (ij (kP (by rw[R.rl];exact hh)))) (ay (a:=WD rz) (b:=nD o) rfl rfl (ij (kP (by rw[R.rl];exact ho)))) (yE _ _));refine av ((bP ?_).trans (e_skip _));by_cases e:Wr rz h=Wr rz o
  .rw[decide_eq_true e]at t1;refine(il t1).trans (ce (ay (ay (a:=dh (bH rs rz n m)) (b:=nD h) rfl rfl (yO hh)) (ay (a:=dh (bH rs rz n m)) (b:=nD o) rfl rfl (yO ho)) ?_));rw[HW hn h1 hh ho e];exact ET _
  .rw[decide_eq_false e]at t1;exact iW t1
theorem nF(R:Rws rz n m)(hn:rs.Nodup)(h1:∀r:List Nat,r∈rs↔r.Perm (a_ n))(x3 x6 x7:Option D):∀(l:List Nat)(y z:Option D),(∀x∈l,x<n) ->∃y' z',aF (aS 4) CB (l.map nD) [some (WD rz),some (dh (bH rs rz n m)),some (nD n),x3,y,z,x6,x7]=.nx [some (WD rz),some (dh (bH rs rz n m)),some (nD n),x3,y',z',x6,x7]
|[],y,z,_=>⟨y,z,eI⟩
|h::l,y,z,hl=>by have hn7:=R.n7;obtain⟨z1,e1⟩:=nG (rs:=rs) R hn h1 (hl h e_) (some (nD n)) x3 x6 x7 (a_ n) z fun x hx=>k_.mp hx;obtain⟨y',z',ih⟩:=nF R hn h1 x3 x6 x7 l (some (nD h)) z1 fun x hx=>hl x (c_ _ hx);refine⟨y',z',?_⟩;rw[<-ih];exact eF (r1:=[some (WD rz),some (dh (bH rs rz n m)),some (nD n),x3,some (nD h),z,x6,x7]) rfl (av ((d7 (gD (ak (d:=nD n) rfl ao) (gA (by omega)))).trans e1))
theorem GU{n m t:Nat}{S:List Nat}(ht:t<m):((a_ m).map (bu n S)).set t (1,n)=(a_ m).map (bu n (S++[t])):=by
 refine PC fun i=>?_;rw[PB,x_,x_];by_cases hi:i<m
 .rw[MZ hi];by_cases e:t=i
  .subst e;rw[if_pos rfl,if_pos (by simpa using ht)];show some _=some _;unfold bu;rw[if_pos (by simp)]
  .rw[if_neg e];show some _=some _;unfold bu;congr 1;have:i∈S++[t]↔i∈S:=by simp;intro z;exact absurd z.symm e
   by_cases q:i∈S
   .rw[if_pos q,if_pos (this.mpr q)]
   .rw[if_neg q,if_neg fun z=>q (this.mp z)]
 .rw[OR (by simp;omega)];by_cases e:t=i
  .omega
  .rw[if_neg e];rfl
theorem nE(hm:m<=60)(x0 x1 x3 x4 x5:Option D):∀(l S:List Nat)(y:Option D),(∀x∈l,x<m) ->∃y',aF (aS 7) CC (l.map nD) [x0,x1,some (nD n),x3,x4,x5,some (LF ((a_ m).map (bu n S))),y]=.nx [x0,x1,some (nD n),x3,x4,x5,some (LF ((a_ m).map (bu n (S++l)))),y']
|[],S,y,_=>⟨y,by rw[ML];exact eI⟩
|t::l,S,y,hl=>by have ht:=hl t e_;obtain⟨y',ih⟩:=nE hm x0 x1 x3 x4 x5 l (S++[t]) (some (nD t)) fun x hx=>hl x (c_ _ hx);refine⟨y',?_⟩;rw[M3]at ih;rw[<-show S++([t]++l)=S++t::l from rfl,<-ih];refine eF (r1:=[x0,x1,some (nD n),x3,x4,x5,some (LF ((a_ m).map (bu n S))),some (nD t)]) rfl ?_;refine av (jI (d:=LF ((a_ m).map (bu n S))) (k:=nD t) (v:=FR (1,n)) rfl (lW (ak (d:=.int 1) rfl (ak (d:=nD n) rfl ao)) (by simp)) rfl ?_);rw[zo (by simp;exact ht),<-GU ht];show some (D.lst _)=some (D.lst _);rw[To]
theorem FU{fa:FE}{fl fh:FP}{r:aj}{d d':D}{lo hi:Option Int}(h1:fa r=.ok d)(h2:fl r=.ok lo)(h3:fh r=.ok hi)(h4:qg d lo hi=some d'):gT fa fl fh r=.ok d':=by unfold gT;rw[h1,bind_ok,h2,bind_ok,h3,bind_ok,h4];rfl
theorem Hf(l:List D)(i:Nat):qg (.tup l) none (some (i:Int))=some (.tup (l.take i)):=by show some (D.tup (b3 l none (some (i:Int))))=_;unfold b3;rw[HT.dB,HT.cV,Se,Tn];rw[List.take_eq_take_iff.mpr (by omega:min (min i l.length) l.length=min i l.length)]
theorem Jg(R:Rws rz n m)(h5:n<=5)(h1:∀r:List Nat,r∈rs↔r.Perm (a_ n))(h2:rs.length=fc n):mU [WD rz,dh (bH rs rz n m),nD n,nD m]=.ok (.bl true):=by
 have hn:=Rg.xF h5 h1 (by rw[h2,qY]);have hn7:=R.n7;have hm8:=R.m8;have h0:0<n:=R.n1;obtain⟨y4,y5,e1⟩:=nF (rs:=rs) R hn h1 (some (nD m)) none none (a_ n) none none fun x hx=>k_.mp hx;have w0:bb (WD rz) (nD 0)=some (TN (Wr rz 0)):=ij (kP (by rw[R.rl];exact h0));refine b5 (B:=uB) (n:=8) ?_;unfold uB;refine(av ((d7 (gD (ak (d:=nD n) rfl ao) (gA (by omega)))).trans e1)).trans ?_;have c:b7 (fC (af (cU 1 [0] (aV b9 (gv 0)) (aS 0) (fun _=>Res.ok true) (f2 (gv 0) (f2 (gv 1) (ci 0) bb) eqD)) aa) allD) [some (WD rz),some (dh (bH rs rz n m)),some (nD n),some (nD m),y4,y5,none,none]=.ok (rz.all fun row=>decide (row=Wr rz 0)):=gE (bM (ak (ji (l:=rz) TN (fun row=>D.bl (decide (row=Wr rz 0))) (jL (d:=WD rz) rfl rfl) (by rw[R.rl];omega) fun row hr=>⟨[some (TN row),some (WD rz)],rfl,ay (a:=TN row) (b:=TN (Wr rz 0)) rfl (ay (a:=WD rz) (b:=nD 0) rfl rfl w0) (yE _ _)⟩) ao) (Dv (fun row=>decide (row=Wr rz 0)) rz)) rfl;by_cases q:(rz.all fun row=>decide (row=Wr rz 0))=true
 .rw[q]at c;have hW:∀h,h<n->Wr rz h=Wr rz 0:=fun h hh=>by have:=MP.mp q (Wr rz h) (by unfold Wr;rw[n_ (by rw[R.rl];exact hh)];exact Nr _);exact of_decide_eq_true this
  have hlt:bH rs rz n m=(a_ n).map fun _=>(a_ m).map (bu n ((Wr rz 0).take n)):=MB fun h hh=>IG R h5 hn h1 h2 hW (k_.mp hh);obtain⟨y7,e2⟩:=nE (n:=n) (m:=m) (by omega) (some (WD rz)) (some (dh (bH rs rz n m))) (some (nD m)) y4 y5 ((Wr rz 0).take n) [] none fun x hx=>k_.mp ((R.row h0).mem_iff.mp (List.mem_of_mem_take hx));rw[O8]at e2;refine bh ((dY c).trans ?_);refine(av (bN (d:=LF ((a_ m).map (bu n []))) ((ji (l:=a_ m) nD (fun _=>FR (0,1)) (gD (ds:=[nD m]) (ak (d:=nD m) rfl ao) (gA (by omega))) (by simp;omega) fun x _=>⟨[some (nD x)],rfl,lW (ds:=[.int 0,.int 1]) (ak (d:=.int 0) rfl (ak (d:=.int 1) rfl ao)) (by simp)⟩).trans ?_))).trans ?_
  .show Res.ok (D.lst _)=Res.ok (D.lst (((a_ m).map (bu n [])).map FR));rw[Mx];refine congrArg (fun l=>Res.ok (D.lst l)) (MB fun x _=>?_);show FR (0,1)=FR (bu n [] x);unfold bu;rw[if_neg (by simp)]
  refine(av ((d7 (ds:=((Wr rz 0).take n).map nD) (jL (d:=.tup (((Wr rz 0).take n).map nD)) (FU (d:=TN (Wr rz 0)) (ay (a:=WD rz) (b:=nD 0) rfl rfl w0) rfl (rG (i:=((n:Nat):Int)) rfl) (by rw[Hf,<-QT])) rfl)).trans e2)).trans ?_;refine bh (bJ (ay (a:=dh (bH rs rz n m)) (b:=dh ((a_ n).map fun _=>(a_ m).map (bu n ((Wr rz 0).take n)))) rfl (bM (ak (ji (l:=a_ n) nD (fun _=>TF ((a_ m).map (bu n ((Wr rz 0).take n)))) (gD (ds:=[nD n]) (ak (d:=nD n) rfl ao) (gA (by omega))) (by simp;omega) fun x _=>⟨[some (nD x),some (LF ((a_ m).map (bu n ((Wr rz 0).take n))))],rfl,bM (ak (d:=LF ((a_ m).map (bu n ((Wr rz 0).take n)))) rfl ao) (e_tupL _)⟩) ao) ?_) ?_))
  .rw[e_tupL];show some (D.tup _)=some (D.tup (((a_ n).map fun _=>(a_ m).map (bu n ((Wr rz 0).take n))).map TF));rw[Mx];rfl
  .rw[hlt];exact GV _
 .rw[Bool.eq_false_iff.mpr q]at c;exact(av ((bP c).trans (e_skip _))).trans (bh (bJ (d:=.bl true) rfl))
end
end Law
end
section
set_option exponentiation.threshold 3000
namespace Law
open PySem PyProof.Rows L2 DL Fq
theorem FZ{a b:Nat}(h:b<=a):j1 (nD a) (nD b)=some (nD (a-b)):=by show some (D.int _)=some (D.int _);rw[Int.ofNat_sub h]
section
variable{rz:List (List Nat)}{n m:Nat}
theorem Jf(R:Rws rz n m):mT [WD rz,nD n,nD m]=.ok (.bl true):=by
 have hnm:=R.nm;refine b5 (B:=uA) (n:=3) ?_;unfold uA;have t1:aP (f2 (gv 1) (ci 5) d9) [some (WD rz),some (nD n),some (nD m)]=.ok (decide (5<n)):=ce (ay (a:=nD n) (b:=nD 5) rfl rfl (g4 _ _));have t2:aP (f2 (gv 2) (gv 1) d9) [some (WD rz),some (nD n),some (nD m)]=.ok (decide (n<m)):=ce (ay (a:=nD m) (b:=nD n) rfl rfl (g4 _ _));have t3:aP (f2 (gv 2) (gv 1) eqD) [some (WD rz),some (nD n),some (nD m)]=.ok (decide (m=n)):=ce (ay (a:=nD m) (b:=nD n) rfl rfl (iX _ _));have t4:aP (f2 (gv 1) (ci 6) gR) [some (WD rz),some (nD n),some (nD m)]=.ok (decide (n<6)):=ce (ay (a:=nD n) (b:=nD 6) rfl rfl (lH _ _));have l3:∀(a b c:Bool),dN (af (fun _=>Res.ok (D.bl a)) (af (fun _=>Res.ok (D.bl b)) (af (fun _=>Res.ok (D.bl c)) aa))) [some (WD rz),some (nD n),some (nD m)]=.ok (B3 a b c):=fun a b c=>gy (ak rfl (ak rfl (ak rfl ao))) (by simp);refine(av ((bP ?_).trans (e_skip _))).trans ?_
 .by_cases h:5<n
  .rw[decide_eq_true h]at t1;exact(il t1).trans (ce (ay (aT (ak (d:=WD rz) rfl ao) (Jd R h)) (l3 _ _ _) (qG _ _ _)))
  .rw[decide_eq_false h]at t1;exact iW t1
 refine(av ((bP ?_).trans (e_skip _))).trans ?_
 .by_cases h:n<m
  .rw[decide_eq_true h]at t2;exact(il t2).trans (ce (ay (aT (ak (d:=WD rz) rfl ao) (J7 R h)) (l3 _ _ _) (qG _ _ _)))
  .rw[decide_eq_false h]at t2;exact iW t2
 refine(av ((bP ?_).trans (e_skip _))).trans ?_
 .by_cases h:5<n
  .rw[decide_eq_true h]at t1;refine(il t1).trans ?_;by_cases e:m=n
   .rw[decide_eq_true e]at t3;exact(il t3).trans (ce (ay (aT (ak (d:=WD rz) rfl ao) (J8 R h e)) (l3 _ _ _) (qG _ _ _)))
   .rw[decide_eq_false e]at t3;exact iW t3
  .rw[decide_eq_false h]at t1;exact iW t1
 by_cases h:5<n
 .rw[decide_eq_false (by omega)]at t4;refine(av ((bP (iW t4)).trans (e_skip _))).trans ?_;exact bh (bJ (xQ (ay (a:=nD n) (b:=nD 5) rfl rfl (by rw[g4,decide_eq_true h]))))
 .have h5:n<=5:=by omega
  obtain⟨rs,a1,a2,a3⟩:=Hy h5;have lk:=Jg R h5 a1 a2;rw[decide_eq_true (by omega)]at t4;refine(av ((bP ((il t4).trans (jd (b:=true) (gE (aT (ak (d:=WD rz) rfl (ak (aT (ak (d:=WD rz) rfl ao) (HA R h5 (fun r hr=>(a1 r).mp hr) a2 a3)) (ak (d:=nD n) rfl (ak (d:=nD m) rfl ao)))) lk) rfl)))).trans (e_skip _))).trans ?_;refine bh (bJ ((xP (ay (a:=nD n) (b:=nD 5) rfl rfl (by rw[g4,decide_eq_false h]))).trans ?_));by_cases e:n<m
  .exact xQ (ay (a:=nD m) (b:=nD n) rfl rfl (by rw[g4,decide_eq_true e]))
  .have e':m=n:=by omega
   subst e';refine(xP (ay (a:=nD m) (b:=nD m) rfl rfl (by rw[g4,decide_eq_false e]))).trans ?_;have ow:=Lc R h5 (fun r hr=>(a1 r).mp hr) a2 a3;rw[Gg R h5 a1 a2]at ow;exact aT (ak (d:=WD rz) rfl (ak (aT (ak (d:=WD rz) rfl ao) ow) (ak (d:=nD m) rfl (ak (d:=nD m) rfl ao)))) lk
theorem main(ns:List Int)(_:ns.length<=63):qk [.lst (ns.map .int)]=.ok (.bl true):=by
 obtain⟨c1,h1⟩:=se ns 1 (by decide);obtain⟨c9,h9⟩:=se ns 9 (by decide);have hc:c1%6<6:=Pr _ (by decide);generalize en:2+c1%6=n;have hk:c1/6%(9-n)<9-n:=Pr _ (by omega);generalize em:n+c1/6%(9-n)=m;obtain⟨rz,r1,r2,r3⟩:=Kw ns 2 n m (by omega) (by omega) (by omega);have i9:c9%n<n:=Pr _ (by omega);have j9:c9/7%n<n:=Pr _ (by omega);have R:∀rows':List (List Nat),rows'.length=n->(∀row∈rows',row∈rz)->Rws rows' n m:=fun rows' hl hm=>⟨by omega,by omega,by omega,by omega,hl,fun row hr=>r2 row (hm row hr)⟩
 have wat:∀h,h<n->Wr rz h∈rz:=fun h hh=>by unfold Wr;rw[n_ (by rw[r1];exact hh)];exact Nr _
 refine b5 (B:=nZ) (n:=5) ?_;unfold nZ;refine(av (bN (d:=nD n) (ay (a:=nD 2) (b:=nD (c1%6)) rfl (ay (a:=nD c1) (b:=nD 6) (aT (ak (d:=IN ns) rfl (ak (d:=nD 1) rfl ao)) h1) rfl (kN (by decide))) (by rw[kQ,en])))).trans ?_;refine(av (bN (d:=nD m) (ay (a:=nD n) (b:=nD (c1/6%(9-n))) rfl (ay (a:=nD (c1/6)) (b:=nD (9-n)) (ay (a:=nD c1) (b:=nD 6) (aT (ak (d:=IN ns) rfl (ak (d:=nD 1) rfl ao)) h1) rfl (oJ (by decide) (by decide))) (ay (a:=nD 9) (b:=nD n) rfl rfl (FZ (by omega))) (kN (by omega))) (by rw[kQ,em])))).trans ?_;refine(av (bN (d:=.lst (rz.map TN)) (bM (ak (aT (ak (d:=IN ns) rfl (ak (d:=nD 2) rfl (ak (d:=nD n) rfl (ak (d:=nD m) rfl ao)))) r3) ao) (e_listT _)))).trans ?_;refine(av (bN (d:=nD (c1/60%3)) (ay (a:=nD (c1/60)) (b:=nD 3) (ay (a:=nD c1) (b:=nD 60) (aT (ak (d:=IN ns) rfl (ak (d:=nD 1) rfl ao)) h1) rfl (oJ (by decide) (by decide))) rfl (kN (by decide))))).trans ?_;generalize c1/60%3=wy;have fin:∀rows':List (List Nat),rows'.length=n->(∀row∈rows',row∈rz)->seqF (retF dU (aJ (af (fC (af (gv 3) aa) tupD) (af (gv 1) (af (gv 2) aa))) [] mT)) aw [some (IN ns),some (nD n),some (nD m),some (.lst (rows'.map TN)),some (nD wy)]=.rt (.bl true):=fun rows' hl hm=>bh (bJ (aT (ak (d:=WD rows') (bM (ak (d:=.lst (rows'.map TN)) rfl ao) (e_tupL _)) (ak (d:=nD n) rfl (ak (d:=nD m) rfl ao))) (Jf (R rows' hl hm))));have tst:∀(k:Nat)(rows':List (List Nat)),aP (f2 (gv 4) (fun _=>Res.ok (D.int (k:Int))) eqD) [some (IN ns),some (nD n),some (nD m),some (.lst (rows'.map TN)),some (nD wy)]=.ok (decide (wy=k)):=fun k rows'=>ce (ay (a:=nD wy) (b:=nD k) rfl rfl (iX _ _));have lat:∀(rows':List (List Nat))(h:Nat),rows'.length=n->h<n->bb (.lst (rows'.map TN)) (nD h)=some (TN (Wr rows' h)):=fun rows' h hl hh=>qz (kP (by rw[hl];exact hh));by_cases w0:wy=0
 .have t0:=tst 0 rz;rw[decide_eq_true w0]at t0;have t1:=tst 1 (rz.map fun _=>Wr rz 0);rw[decide_eq_false (by omega)]at t1;refine(av ((dY t0).trans (av (bN (d:=.lst ((rz.map fun _=>Wr rz 0).map TN)) ((ji (l:=rz) TN (fun _=>TN (Wr rz 0)) (jL (d:=.lst (rz.map TN)) rfl rfl) (by rw[r1];omega) fun row _=>⟨[some (TN row),some (.lst (rz.map TN))],rfl,ay (a:=.lst (rz.map TN)) (b:=nD 0) rfl rfl (lat rz 0 r1 (by omega))⟩).trans (by rw[Mx];rfl)))))).trans ?_;refine(av ((bP t1).trans (e_skip _))).trans ?_;exact fin _ (by rw[l_];exact r1) fun row hr=>by obtain⟨_,_,rfl⟩:=q_.mp hr;exact wat 0 (by omega)
 .have t0:=tst 0 rz;rw[decide_eq_false w0]at t0;refine(av ((bP t0).trans (e_skip _))).trans ?_;have t1:=tst 1 rz;by_cases w1:wy=1
  .rw[decide_eq_true w1]at t1;refine(av ((dY t1).trans (av (jI (d:=.lst (rz.map TN)) (k:=nD (c9%n)) (v:=TN (Wr rz (c9/7%n))) (d':=.lst ((rz.set (c9%n) (Wr rz (c9/7%n))).map TN)) rfl (ay (a:=.lst (rz.map TN)) (b:=nD (c9/7%n)) rfl (ay (a:=nD (c9/7)) (b:=nD n) (ay (a:=nD c9) (b:=nD 7) (aT (ak (d:=IN ns) rfl (ak (d:=nD 9) rfl ao)) h9) rfl (oJ (by decide) (by decide))) rfl (kN (by omega))) (lat rz _ r1 j9)) (ay (a:=nD c9) (b:=nD n) (aT (ak (d:=IN ns) rfl (ak (d:=nD 9) rfl ao)) h9) rfl (kN (by omega))) (by rw[zo (by rw[l_,r1];exact i9),To]))))).trans ?_;exact fin _ (by rw[NC];exact r1) fun row hr=>by
    rcases List.mem_or_eq_of_mem_set hr with z|z
    .exact z
    .rw[z];exact wat _ j9
  .rw[decide_eq_false w1]at t1;refine(av ((bP t1).trans (e_skip _))).trans ?_;exact fin rz r1 fun row hr=>hr
end
end Law
end
open PySem PySem.W PyProof.Rows
namespace Law
abbrev L4:List PySem.Str:=["TradeError","TooMany","NotSquare","NoFraction","NoOrder"]
open PySem PySem.Spec PyProof.Rows L2 DL
theorem vZ{K:W.Frag}{h:Heap}{mg:Str->Option b_}(KX:K.In h)(G:h.Ns My mg){cA cB cC cD cE:Addr}{bA bB bC bD bE:List b_}{L:DL.QL}(aA:W.nsIn K My "TradeError" = some (some (.ref cA)))(aB:W.nsIn K My "TooMany" = some (some (.ref cB)))(aC:W.nsIn K My "NotSquare" = some (some (.ref cC)))(aD:W.nsIn K My "NoFraction" = some (some (.ref cD)))(aE:W.nsIn K My "NoOrder" = some (some (.ref cE)))(oA:DL.dR K cA=some (bA,(F_ "TradeError")))(beA:bA.contains (Value.type "BaseException")=true)(boA:bA.contains (Value.type "object")=true)(gaA:W.findIn K (.ref cA) "__getattribute__" = some (some (.builtin "BaseException.__getattribute__")))(gnA:W.findIn K (.ref cA) "__getattr__" = some (none))(gcA:W.findIn K (.ref cA) "__class__" = some (some (.builtin "object.__class__")))(unA:DL.eN K "TradeError" cA=true)(oB:DL.dR K cB=some (bB,(F_ "TooMany")))(beB:bB.contains (Value.type "BaseException")=true)(boB:bB.contains (Value.type "object")=true)(gaB:W.findIn K (.ref cB) "__getattribute__" = some (some (.builtin "BaseException.__getattribute__")))(gnB:W.findIn K (.ref cB) "__getattr__" = some (none))(gcB:W.findIn K (.ref cB) "__class__" = some (some (.builtin "object.__class__")))(unB:DL.eN K "TooMany" cB=true)(oC:DL.dR K cC=some (bC,(F_ "NotSquare")))(beC:bC.contains (Value.type "BaseException")=true)(boC:bC.contains (Value.type "object")=true)(gaC:W.findIn K (.ref cC) "__getattribute__" = some (some (.builtin "BaseException.__getattribute__")))(gnC:W.findIn K (.ref cC) "__getattr__" = some (none))(gcC:W.findIn K (.ref cC) "__class__" = some (some (.builtin "object.__class__")))(unC:DL.eN K "NotSquare" cC=true)(oD:DL.dR K cD=some (bD,(F_ "NoFraction")))(beD:bD.contains (Value.type "BaseException")=true)(boD:bD.contains (Value.type "object")=true)(gaD:W.findIn K (.ref cD) "__getattribute__" = some (some (.builtin "BaseException.__getattribute__")))(gnD:W.findIn K (.ref cD) "__getattr__" = some (none))(gcD:W.findIn K (.ref cD) "__class__" = some (some (.builtin "object.__class__")))(unD:DL.eN K "NoFraction" cD=true)(oE:DL.dR K cE=some (bE,(F_ "NoOrder")))(beE:bE.contains (Value.type "BaseException")=true)(boE:bE.contains (Value.type "object")=true)(gaE:W.findIn K (.ref cE) "__getattribute__" = some (some (.builtin "BaseException.__getattribute__")))(gnE:W.findIn K (.ref cE) "__getattr__" = some (none))(gcE:W.findIn K (.ref cE) "__class__" = some (some (.builtin "object.__class__")))(unE:DL.eN K "NoOrder" cE=true)(gg:W.specialIn K (.builtin "object.__class__") "__get__" = some (some (.builtin "getset_descriptor.__get__")))(gt:W.takesIn K (.builtin "object.__class__")=some true)(hL:L=[((F_ "TradeError"),cA,bA),((F_ "TooMany"),cB,bB),((F_ "NotSquare"),cC,bC),((F_ "NoFraction"),cD,bD),((F_ "NoOrder"),cE,bE)])(eC:W.excIn K cC DL.iD "ValueError.__new__" = true)(eB:W.excIn K cB DL.iD "ValueError.__new__" = true)(hAA:(Value.ref cA::bA).contains (.ref cA)=true)(hAB:(Value.ref cB::bB).contains (.ref cA)=true)(hAC:(Value.ref cC::bC).contains (.ref cA)=true)(hAD:(Value.ref cD::bD).contains (.ref cA)=true)(hAE:(Value.ref cE::bE).contains (.ref cA)=true)(nn_ValueError:W.kitOne K (.type "NoneType") (.type "ValueError")=some false)(k_ValueError:(Tt L fun q=>W.kitOne K (.ref q.2.1) (.type "ValueError")==Law.iw q.1)=true)(nnC:W.kitOne K (.type "NoneType") (.ref cC)=some false)(kC:(Tt L fun q=>W.kitOne K (.ref q.2.1) (.ref cC)==Law.iu q.1)=true)(nnB:W.kitOne K (.type "NoneType") (.ref cB)=some false)(kB:(Tt L fun q=>W.kitOne K (.ref q.2.1) (.ref cB)==Law.iz q.1)=true):∃(C_TradeError:Addr)(C_TooMany:Addr)(C_NotSquare:Addr)(C_NoFraction:Addr)(C_NoOrder:Addr)(bm_TradeError:List b_)(bm_TooMany:List b_)(bm_NotSquare:List b_)(bm_NoFraction:List b_)(bm_NoOrder:List b_),(XC K mg "NotSquare" C_NotSquare)/\(XN K "NotSquare" C_NotSquare)/\(XC K mg "TooMany" C_TooMany)/\(XN K "TooMany" C_TooMany)/\(XA K C_TradeError bm_TradeError)/\(mg "TradeError" = some (.ref C_TradeError))/\(kE K C_TradeError jk)/\(IsxOk K (.type "ValueError") iw)/\(mg "NotSquare" = some (.ref C_NotSquare))/\(IsxOk K (.ref C_NotSquare) iu)/\(mg "TooMany" = some (.ref C_TooMany))/\(IsxOk K (.ref C_TooMany) iz):=by
 have qA:=(DL.lD oA beA boA gaA gnA gcA gg gt unA)
 have qB:=(DL.lD oB beB boB gaB gnB gcB gg gt unB)
 have qC:=(DL.lD oC beC boC gaC gnC gcC gg gt unC)
 have qD:=(DL.lD oD beD boD gaD gnD gcD gg gt unD)
 have qE:=(DL.lD oE beE boE gaE gnE gcE gg gt unE)
 subst hL;have hN:List.map (·.1) [((F_ "TradeError"),cA,bA),((F_ "TooMany"),cB,bB),((F_ "NotSquare"),cC,bC),((F_ "NoFraction"),cD,bD),((F_ "NoOrder"),cE,bE)]=Law.L4:=rfl;have hf:DL.gl (fun q:Str×Addr×List b_=>DL.CF K q.1 q.2.1 q.2.2) [((F_ "TradeError"),cA,bA),((F_ "TooMany"),cB,bB),((F_ "NotSquare"),cC,bC),((F_ "NoFraction"),cD,bD),((F_ "NoOrder"),cE,bE)]:=⟨qA,qB,qC,qD,qE,trivial⟩
 exact⟨cA,cB,cC,cD,cE,bA,bB,bC,bD,bE,DL.wN KX G aC eC,qC.xn,DL.wN KX G aB eB,qB.xn,qA.xa,W.mg_of KX G aA,DL.Dp [((F_ "TradeError"),cA,bA),((F_ "TooMany"),cB,bB),((F_ "NotSquare"),cC,bC),((F_ "NoFraction"),cD,bD),((F_ "NoOrder"),cE,bE)] (by intro q hq;simp only[p_,P9,or_false]at hq;rcases hq with rfl|rfl|rfl|rfl|rfl <;> first|exact⟨qA,hAA⟩|exact⟨qB,hAB⟩|exact⟨qC,hAC⟩|exact⟨qD,hAD⟩|exact⟨qE,hAE⟩) (fun nm h=>by have h2:=Oa.mp h;simp only[p_,P9,or_false]at h2;rcases h2 with rfl|rfl|rfl|rfl|rfl <;> simp),DL.qj hN hf nn_ValueError k_ValueError,W.mg_of KX G aC,DL.qj hN hf nnC kC,W.mg_of KX G aB,DL.qj hN hf nnB kB⟩
end Law
abbrev P0:=Pt.prog
namespace PySem.W.Fast
def tw880070658273572983:=0
def tw6505913782527604592:=0
def tw15333360477886152973:=0
def tw16985330273420031509:=0
def tw3904705464466276388:=0
end PySem.W.Fast
set_option maxRecDepth 100000 in
set_option maxHeartbeats 0 in
theorem PySem.Challenge.cw_ringtrade_k26_lots_of_like_rows_holds : PySem.Challenge.rw_ringtrade_k26_lots_of_like_rows.Holds := by
 w_on; o_law; k_head; (case hw=>w_witness2)
 k_fill
 refine DL.Do (l:=PySem.Challenge.rw_ringtrade_k26_lots_of_like_rows) (k:=11) (x := "_law_script") (F:=Law.qk) rfl rfl ⟨rfl,by decide,by decide,rfl⟩ (fun w h Y=>PySem.W.kIn_of Y) Law.main ?C
 intro w mg fa h KX G hmg
 have T:Law.Txt (L2.az KX) mg:=by
  dsimp only [L2.az]
  refine ⟨?u4,?u5,?u6,?u7,?u8,?u9,?va,?vb,?vc,?vd,?ve,?vf,?vg⟩
  case u4|u5|u6|u7|u8|u9|va|vb|vc|vd|ve|vf=>(refine' PySem.W.mg_none_of KX G ?_; k_is)
  case vg=>(refine' DL.Dq KX G ?z; case z=>k_is)
 obtain ⟨ud,ua,ub,vh,vi,ug,vj,vk,vl,vm,vn,vo,vp,vq,uh,ui,uj,uk,ul,um,un,uo⟩:∃ (ud:Addr) (ua:Addr) (ub:Addr) (vh:Addr) (vi:Addr) (ug:List Value) (vj:List Value) (vk:List Value) (vl:List Value) (vm:List Value),(DL.XC (L2.az KX) mg "NotSquare" ub)∧(DL.XN (L2.az KX) "NotSquare" ub)∧(DL.XC (L2.az KX) mg "TooMany" ua)∧(DL.XN (L2.az KX) "TooMany" ua)∧(DL.XA (L2.az KX) ud ug)∧(mg "TradeError" = some (.ref ud))∧(DL.kE (L2.az KX) ud Law.jk)∧(DL.IsxOk (L2.az KX) (.type "ValueError") Law.iw)∧(mg "NotSquare" = some (.ref ub))∧(DL.IsxOk (L2.az KX) (.ref ub) Law.iu)∧(mg "TooMany" = some (.ref ua))∧(DL.IsxOk (L2.az KX) (.ref ua) Law.iz):=by
  dsimp only [L2.az]
  refine' Law.vZ KX G ?vr ?vs ?vt ?vu ?vv ?vw ?vx ?vy ?vz ?v0 ?v1 ?v2 ?v3 ?v4 ?v5 ?v6 ?v7 ?v8 ?v9 ?wa ?wb ?wc ?wd ?we ?wf ?wg ?wh ?wi ?wj ?wk ?wl ?wm ?wn ?wo ?wp ?wq ?wr ?ws ?wt ?wu ?gg ?gt ?hL ?wv ?ww ?wx ?wy ?wz ?w0 ?w1 ?w2 ?w3 ?w4 ?w5 ?w6 ?w7
  case vr|vs|vt|vu|vv=>k_is
  case vw=>exact rfl
  case vx|vy=>decide +kernel
  case vz|v0|v1=>k_is
  case v2=>kernel_rfl
  case v3=>exact rfl
  case v4|v5=>decide +kernel
  case v6|v7|v8=>k_is
  case v9=>kernel_rfl
  case wa=>exact rfl
  case wb|wc=>decide +kernel
  case wd|we|wf=>k_is
  case wg=>kernel_rfl
  case wh=>exact rfl
  case wi|wj=>decide +kernel
  case wk|wl|wm=>k_is
  case wn=>kernel_rfl
  case wo=>exact rfl
  case wp|wq=>decide +kernel
  case wr|ws|wt=>k_is
  case wu=>kernel_rfl
  case gg|gt=>k_is
  case hL=>exact rfl
  case wv|ww=>kernel_rfl
  case wx|wy|wz|w0|w1=>decide +kernel
  case w2|w3|w4|w5|w6|w7=>kernel_rfl
 have w8:DL.DefAt (L2.az KX) mg "_law_like_well" Law.iA:=by
  dsimp only [L2.az]
  refine' DL.bS KX G ?a ?l ?c ?k
  case a|l|c|k=>k_is
 have w9:DL.DefAt (L2.az KX) mg "things_in" Law.sD:=by
  dsimp only [L2.az]
  refine' DL.bS KX G ?a ?l ?c ?k
  case a|l|c|k=>k_is
 have xa:DL.DefAt (L2.az KX) mg "is_square" Law.sB:=by
  dsimp only [L2.az]
  refine' DL.bS KX G ?a ?l ?c ?k
  case a|l|c|k=>k_is
 have xb:DL.DefAt (L2.az KX) mg "refuse_unless_square" Law.uW:=by
  dsimp only [L2.az]
  refine' DL.bS KX G ?a ?l ?c ?k
  case a|l|c|k=>k_is
 have xc:DL.DefAt (L2.az KX) mg "refuse_unless_square" Law.uX:=by
  dsimp only [L2.az]
  refine' DL.bS KX G ?a ?l ?c ?k
  case a|l|c|k=>k_is
 have xd:DL.DefAt (L2.az KX) mg "refuse_too_many_for_lots" Law.uR:=by
  dsimp only [L2.az]
  refine' DL.bS KX G ?a ?l ?c ?k
  case a|l|c|k=>k_is
 have xe:DL.DefAt (L2.az KX) mg "refuse_too_many_for_lots" Law.uT:=by
  dsimp only [L2.az]
  refine' DL.bS KX G ?a ?l ?c ?k
  case a|l|c|k=>k_is
 have xf:DL.DefAt (L2.az KX) mg "greatest_divisor" Law.uP:=by
  dsimp only [L2.az]
  refine' DL.bS KX G ?a ?l ?c ?k
  case a|l|c|k=>k_is
 have xg:DL.DefAt (L2.az KX) mg "is_whole" Law.sV:=by
  dsimp only [L2.az]
  refine' DL.bS KX G ?a ?l ?c ?k
  case a|l|c|k=>k_is
 have xh:DL.DefAt (L2.az KX) mg "fraction" Law.sT:=by
  dsimp only [L2.az]
  refine' DL.bS KX G ?a ?l ?c ?k
  case a|l|c|k=>k_is
 have xi:DL.DefAt (L2.az KX) mg "shares_in" Law.jR:=by
  dsimp only [L2.az]
  refine' DL.bS KX G ?a ?l ?c ?k
  case a|l|c|k=>k_is
 have xj:DL.DefAt (L2.az KX) mg "is_below" Law.sU:=by
  dsimp only [L2.az]
  refine' DL.bS KX G ?a ?l ?c ?k
  case a|l|c|k=>k_is
 have xk:DL.DefAt (L2.az KX) mg "first_wrong" Law.sX:=by
  dsimp only [L2.az]
  refine' DL.bS KX G ?a ?l ?c ?k
  case a|l|c|k=>k_is
 have xl:DL.DefAt (L2.az KX) mg "are_unlike" Law.tj:=by
  dsimp only [L2.az]
  refine' DL.bS KX G ?a ?l ?c ?k
  case a|l|c|k=>k_is
 have xm:DL.DefAt (L2.az KX) mg "has_each_once" Law.tR:=by
  dsimp only [L2.az]
  refine' DL.bS KX G ?a ?l ?c ?k
  case a|l|c|k=>k_is
 have xn:DL.DefAtD (L2.az KX) mg "order_of" Law.sW [Value.none]:=by
  dsimp only [L2.az]
  refine' DL.nU KX G ?a ?l ?t ?c ?k
  case a|l|t|c|k=>k_is
 have xo:DL.DefAt (L2.az KX) mg "best_left" Law.mQ:=by
  dsimp only [L2.az]
  refine' DL.bS KX G ?a ?l ?c ?k
  case a|l|c|k=>k_is
 have xp:DL.DefAt (L2.az KX) mg "owner_left" Law.tt:=by
  dsimp only [L2.az]
  refine' DL.bS KX G ?a ?l ?c ?k
  case a|l|c|k=>k_is
 have xq:DL.DefAt (L2.az KX) mg "hand_pointed_at" Law.uK:=by
  dsimp only [L2.az]
  refine' DL.bS KX G ?a ?l ?c ?k
  case a|l|c|k=>k_is
 have xr:DL.DefAt (L2.az KX) mg "ring_from" Law.sC:=by
  dsimp only [L2.az]
  refine' DL.bS KX G ?a ?l ?c ?k
  case a|l|c|k=>k_is
 have xs:DL.DefAt (L2.az KX) mg "rings_of_round" Law.jV:=by
  dsimp only [L2.az]
  refine' DL.bS KX G ?a ?l ?c ?k
  case a|l|c|k=>k_is
 have xt:DL.DefAt (L2.az KX) mg "got_in" Law.sf:=by
  dsimp only [L2.az]
  refine' DL.bS KX G ?a ?l ?c ?k
  case a|l|c|k=>k_is
 have xu:DL.DefAtD (L2.az KX) mg "rounds" Law.jN [Value.none]:=by
  dsimp only [L2.az]
  refine' DL.nU KX G ?a ?l ?t ?c ?k
  case a|l|t|c|k=>k_is
 have xv:DL.DefAt (L2.az KX) mg "dealing_of" Law.mM:=by
  dsimp only [L2.az]
  refine' DL.bS KX G ?a ?l ?c ?k
  case a|l|c|k=>k_is
 have up:DL.DefAtD (L2.az KX) mg "by_rings" Law.o6 [Value.none]:=by
  dsimp only [L2.az]
  refine' DL.nU KX G ?a ?l ?t ?c ?k
  case a|l|t|c|k=>k_is
 have xw:DL.DefAt (L2.az KX) mg "all_orders" Law.tf:=by
  dsimp only [L2.az]
  refine' DL.bS KX G ?a ?l ?c ?k
  case a|l|c|k=>k_is
 have xx:DL.DefAt (L2.az KX) mg "lot_of_ownings" Law.mX:=by
  dsimp only [L2.az]
  refine' DL.bS KX G ?a ?l ?c ?k
  case a|l|c|k=>k_is
 have xy:DL.DefAt (L2.az KX) mg "lot_of_ownings" Law.uQ:=by
  dsimp only [L2.az]
  refine' DL.bS KX G ?a ?l ?c ?k
  case a|l|c|k=>k_is
 have xz:DL.DefAtD (L2.az KX) mg "by_order" Law.sS [Value.none]:=by
  dsimp only [L2.az]
  refine' DL.nU KX G ?a ?l ?t ?c ?k
  case a|l|t|c|k=>k_is
 have x0:DL.DefAt (L2.az KX) mg "lot" Law.lP:=by
  dsimp only [L2.az]
  refine' DL.bS KX G ?a ?l ?c ?k
  case a|l|c|k=>k_is
 have x1:DL.DefAt (L2.az KX) mg "lot" Law.rH:=by
  dsimp only [L2.az]
  refine' DL.bS KX G ?a ?l ?c ?k
  case a|l|c|k=>k_is
 have x2:DL.DefAt (L2.az KX) mg "_law_refused" Law.uO:=by
  dsimp only [L2.az]
  refine' DL.bS KX G ?a ?l ?c ?k
  case a|l|c|k=>k_is
 have x3:DL.DefAt (L2.az KX) mg "_law_refused" Law.uU:=by
  dsimp only [L2.az]
  refine' DL.bS KX G ?a ?l ?c ?k
  case a|l|c|k=>k_is
 have x4:DL.DefAt (L2.az KX) mg "_law_both_well" Law.tM:=by
  dsimp only [L2.az]
  refine' DL.bS KX G ?a ?l ?c ?k
  case a|l|c|k=>k_is
 have x5:DL.DefAt (L2.az KX) mg "_law_row" Law.sR:=by
  dsimp only [L2.az]
  refine' DL.bS KX G ?a ?l ?c ?k
  case a|l|c|k=>k_is
 have x6:DL.DefAt (L2.az KX) mg "_law_cell" Law.sA:=by
  dsimp only [L2.az]
  refine' DL.bS KX G ?a ?l ?c ?k
  case a|l|c|k=>k_is
 have x7:DL.DefAt (L2.az KX) mg "_law_wishes" Law.mP:=by
  dsimp only [L2.az]
  refine' DL.bS KX G ?a ?l ?c ?k
  case a|l|c|k=>k_is
 have x8:DL.DefAt (L2.az KX) mg "law" Law.lO:=by
  dsimp only [L2.az]
  refine' DL.bS KX G ?a ?l ?c ?k
  case a|l|c|k=>k_is
 refine DL.Dr hmg x8 (fun _ _ _ _ _ _ us hl=>match us,hl with | [_],_=>rfl) fun f fd Fn base=>?_
 have x9:=Law.Kk (P:=P0) (w:=w) (base:=base) T w8
 have uc:=Law.Hb (P:=P0) (w:=w) (base:=base) T w9
 have uq:=Law.G6 (P:=P0) (w:=w) (base:=base) T xa uc
 have ya:=Law.Lj (P:=P0) (w:=w) (base:=base) T xb uq
 have yb:=Law.LP (P:=P0) (w:=w) (base:=base) T xc uq vn vo
 have ur:=Law.LG (P:=P0) (w:=w) (base:=base) T xd
 have ut:=Law.LV (P:=P0) (w:=w) (base:=base) T xe vp vq
 have yc:=Law.K0 (P:=P0) (w:=w) (base:=base) T xf
 have uu:=Law.F9 (P:=P0) (w:=w) (base:=base) T xg
 have yd:=Law.F7 (P:=P0) (w:=w) (base:=base) T xh uu yc
 have uv:=Law.Ha (P:=P0) (w:=w) (base:=base) T xi yd
 have ye:=Law.F8 (P:=P0) (w:=w) (base:=base) T xj uu
 have yf:=Law.IF (P:=P0) (w:=w) (base:=base) T xk ye
 have yg:=Law.Jo (P:=P0) (w:=w) (base:=base) T xl yf
 have yh:=Law.JV (P:=P0) (w:=w) (base:=base) T xm yg
 have uw:=Law.Ga (P:=P0) (w:=w) (base:=base) T xn yh
 have ux:=Law.GY (P:=P0) (w:=w) (base:=base) T xo
 have yi:=Law.Jq (P:=P0) (w:=w) (base:=base) T xp
 have yj:=Law.K4 (P:=P0) (w:=w) (base:=base) T xq yi
 have yk:=Law.G9 (P:=P0) (w:=w) (base:=base) T xr
 have yl:=Law.Km (P:=P0) (w:=w) (base:=base) T xs ux yj yk
 have ue:=Law.EZ (P:=P0) (w:=w) (base:=base) T xt
 have uy:=Law.E1 (P:=P0) (w:=w) (base:=base) T xu uw uc yl ue
 have uf:=Law.Jp (P:=P0) (w:=w) (base:=base) T xv
 have uz:=Law.F6 (P:=P0) (w:=w) (base:=base) T up uy ue uf
 have uz':=Law.GZ (P:=P0) (w:=w) (base:=base) T up uy ue uf
 have u0:=Law.Jn (P:=P0) (w:=w) (base:=base) T xw
 have ym:=Law.Kl (P:=P0) (w:=w) (base:=base) T xx ya ur u0 uz' uc uv
 have u1:=Law.K1 (P:=P0) (w:=w) (base:=base) T xy yb ut
 have yn:=Law.F5 (P:=P0) (w:=w) (base:=base) T xz uc uw ux uf
 have yo:=Law.Dt (P:=P0) (w:=w) (base:=base) T x0 ur u0 yn uc uv
 have u2:=Law.D6 (P:=P0) (w:=w) (base:=base) T x1 ut
 have yp:=Law.KZ (P:=P0) (w:=w) (base:=base) T x2 u2 uh ui uj uk ul um un uo
 have yq:=Law.LX (P:=P0) (w:=w) (base:=base) T x3 u1 uh ui uj uk ul um un uo
 have yr:=Law.Kj (P:=P0) (w:=w) (base:=base) T x4 yp u2 yq u1 yo x9 ym
 have ys:=Law.GM (P:=P0) (w:=w) (base:=base) T x5
 have u3:=Law.GX (P:=P0) (w:=w) (base:=base) T x6
 have yt:=Law.IE (P:=P0) (w:=w) (base:=base) T x7 u3 ys
 exact Law.Ds T Fn u3 yt yr
end
