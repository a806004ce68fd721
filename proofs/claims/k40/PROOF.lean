import PyProof.Rows.All
import Wide.All
import OpenK.AllK
import Wide.FinOn
import Lean
import PyProof.EqAt
import PyProof.EqKinds
import PyProof.TupleCall
import PyProof.Rows.SetFrom
import KE.KSortTup
import PyProof.Draws
import PyProof.EnumMake
import PyProof.ListRange
import PyProof.Rows.EnumRows
import PyProof.SetRoads
import PyProof.Rows.MinMaxN
import PyProof.Rows.MaxTwoN
import PySem.Challenge.RW_ringtrade_k40_rules
noncomputable section
open PySem renaming Value->a_,wpAny_bind->b_,Shared->c_,starEach->h_,wpAny_pure->n_,wpAny->x_,model->E_,Program->H_,mainGlobals->N_,World->Z_,sizeLine_eq->Qaa,Around->Qag,compareOp->Qak,wpAny_mono->Qan,FuncData->QaE,foldedSetIterable->QaH,wpAny_field->QaI,wpAny_Call_Name_kw->QaL,wpAny_newObj_type->QaS,mem_of_lookup->QaW,excClassObj->QaZ,assignEach->Qa0,wpAny_holding->Qa8,attributeBase->Qa9,binaryOp->Qbc,wpAny_passesOwn->Qbn,wpAny_truthy_bool->Qbq,sysModules->Qbs,behindInMarks->Qbt,cLine->Qbx,wpAny_isSubtype_exc->QbA,wpAny_setField->QbC,wpAny_execs_nil->QbM,bindArgs->QbN,wpAny_loadPart'->QbO,ExceptHandler->QbQ,wpAny_loadPart_at->QbU,keywordEach->QbY,NameKind->QbZ,bootBuiltins->Qb4,swapsWith->Qb5,setFlight->Qb7,wpAny_typeOf_ref->Qb9,wpAny_standAt->Qce,wpAny_call->Qco,tupleKind_room_in1->Qcp,wpAny_pyIter_tuple->Qcr,Scope->Qct,wpAny_callSpecial?_slot->Qcv,sliceBounds->Qcw,holding->Qcz,codeAny_mono->QcB,plainObj_wpAny_Assign_Attribute->QcI,wpAny_call_entry->QcM,call_meets->QcN,codeAny->QcS,codeAny_call_builtin->QcV,evalEach->QcW,letOwnedTupleGo->QcZ,PassesOwn->Qc8,noteFrame->Qda,assign->Qdc,wpAny_loadPart->Qde,backToKw->Qdf,wpAny_pyIter_enum->Qds,rawInt->Qdt,wpAny_comprehension_free->Qdv,getMethod->QdC,noFill_tuple_add->QdD,standAt->QdJ,Builtin->QdL,concat_meets->QdM,PlainAttrs->QdP,callerA->QdR,OwnTail->QdS,notedBy->QdU,codeAny_handlers_test->Qd6,compEnvC->Qeb,tupleKind->Qeg,valueAt->Qeh,seqItems?->Qei,codeAny_forLoop_any->Qej,wpAny_handleBy_cons->Qel,seq_tuple_add->Qen,IsPart->Qeu,typeOf->Qev,isInstance->QeA,Within->QeF,wpAny_assign_Name->QeI,callWith->QeK,BindsTo->QeM,getItem->QeN,slot_list_getitem->QeO,Keyword->QeP,relabel->QeV,handleBy->QeX,DictEntry->Qe3,bindSpecial->Qfe,seqIndex_of->Qff,atKey->Qfg,builtinsNs->Qfr,Model->Qfs,wpAny_Name->Qft,Result->Qfv,bindL->Qfw,bindC->Qfx,typeIs_int->Qfz,call->QfB,closureFor->QfF
open Bool renaming false_ne_true->d_,and_eq_true->M_,eq_iff_iff->T_,not_eq_true'->QbT,or_true->QdT,false_or->Qeo,false_eq_true->Qew,or_eq_true->Qfm,false_and->Qfu,and_self->Qf2
open List renaming range->e_,getElem?_eq_getElem->f_,getElem?_set_ne->g_,mem_cons_self->j_,mem_cons_of_mem->k_,length_map->l_,getElem?_eq_some_iff->m_,map_cons->o_,replicate->p_,size_toArray->q_,getElem?_set_self->s_,mem_cons->t_,getElem?_map->u_,getD_eq_getElem?_getD->y_,mem_range->z_,mem_map->A_,mem_filter->D_,length_cons->K_,map_append->P_,mem_append_right->Q_,map_map->R_,not_mem_nil->V_,append_nil->W_,find?_cons->X_,length_append->Y_,append_assoc->Qab,getElem?_append_left->Qaj,getElem?_eq_none->Qal,map_congr_left->Qam,contains_iff_mem->Qaq,sum_cons->Qas,filter_cons->Qau,nodup_range->Qav,filterMap_cons->Qaw,getElem?_range->Qax,getElem_mem->QaD,drop_eq_getElem_cons->QaF,Nodup->QaG,mem_append->QaJ,mem_filterMap->QaK,find?_eq_none->QaM,mem_append_left->QaN,length_take->QaO,getElem?_replicate->QaP,flatten_cons->QaT,length_range->QaV,replicate_succ->QaX,nil_append->QaY,lookup->Qa2,nodup_cons->Qa5,length_pos_of_mem->Qa7,all_cons->Qba,all_eq_true->Qbb,getElem?_append_right->Qbd,mem_singleton->Qbf,ne_nil_of_mem->Qbg,length_replicate->Qbh,singleton_append->Qbi,exists_mem_of_ne_nil->Qbm,length_nil->Qbo,drop_length->QbD,lookup_cons->QbE,mem_flatten->QbH,any_cons->QbP,nodup_append->QbW,length->Qb0,range_eq_range'->Qb3,map_nil->Qb6,countP_cons->Qb8,mem_of_find?_eq_some->Qcb,length_pos_iff->Qcd,foldl_cons->Qcm,range_succ->Qcn,contains_cons->Qcq,reverse_cons->QcE,ext_getElem?->QcH,length_singleton->QcJ,length_filter_le->QcK,length_drop->QcL,any_eq_true->QcR,count_le_length->QcX,range'->QcY,find?_some->Qc1,any_map->Qc6,perm_append_singleton->Qdo,length_erase_of_mem->Qdz,take_of_length_le->QdV,map_id'->QdX,of_mem_zip->QdY,forIn_cons->Qd0,take_append_drop->Qd7,mem_of_getElem?->Qd8,zip_cons_cons->Qet,filter_filter->QeB,count_pos_iff->QeD,count_eq_zero->QeE,flatMap_cons->Qe1,ext_getElem->Qe6,perm_middle->Qfa,range'_succ->Qfb,length_set->Qfi,map_const'->Qfk,countP_map->Qfn,idxOf_cons->Qfp,foldl->QfA,map->QfL,map_take->Qf0,map_drop->Qf1
open PySem.Heap renaming get?_push_of_some->i_,lt_size->w_,get?_push_size->B_,get?_update_self->Qap,get?_update_ne->Qar,get?_none_of_le->Qbp,size_push->QbX,FunFrames->QcG,SameBut->Qc5,get?_update_other->QdO,get?_push_at->QeW,MadeExcOf->QfH
open Nat renaming le_refl->r_,lt_of_lt_of_le->G_,le_trans->L_,ne_of_lt->S_,zero_le->Qaf,lt_irrefl->QaB,lt_succ_self->Qa1,ne_of_gt->QbI,zero_add->QbL,mul_pos->Qb1,le_of_eq->QcA,lt_succ_of_lt->QcF,dvd_mul_left->QcQ,dvd_trans->QcT,le_succ->QcU,lt_of_le_of_lt->Qdj,mod_lt->Qdp,mul_div_cancel_left->QdH,lt_of_succ_lt_succ->QdW,div_le_self->Qd2,pow_dvd_pow->Qd3,add_mul->Qed,mul_le_mul_left->Qem,pos_of_ne_zero->QeC,le_of_lt->QeH,succ_mul->QeQ,add_comm->QeR,mul_comm->QeS,pow_succ->QeZ,succ_le_succ->Qe4,dvd_antisymm->Qe9,min_eq_left->Qfq,le_of_dvd->QfY
open PySem.Str renaming ofString->C_,empty->Qc9
open PySem.F renaming plainAttrs_list->F_,slot_list_append->Qad,type_list_append->Qae,slot_list_remove->Qbv,slot_dict_update->Qbw,plainAttrs_dict->QbF,slot_list_count->QbG,args_tuple_add_2->Qcf,type_dict_update->Qch,type_list_remove->Qci,entry_tuple_add->Qcu,type_list_count->Qcx,slot_tuple_add->QcC,excBase_ValueError->Qdm,slot_list_insert->Qdw,slot_dict_values->Qdx,store_ValueError->Qdy
open PySem.PassesOwn renaming never->I_
open Option.some renaming inj->J_,injEq->QeG
open Int renaming natAbs_natCast->O_,mul_assoc->Qac,mul_left_comm->Qat,mul_comm->Qay,natCast_mul->QaC,toNat_natCast->QaR,gcd->Qa4,gcd_dvd_right->Qbr,eq_of_mul_eq_mul_right->Qb2,ofNat_inj->Qcj,natCast_nonneg->Qcs,gcd_dvd_left->QcP,toNat_of_nonneg->Qc4,mul_lt_mul_of_pos_right->Qc7,fdiv_eq_ediv_of_nonneg->Qdd,lt_of_mul_lt_mul_right->Qdn,mul_ediv_cancel_left->QdA,natCast_ediv->QdF,natCast_dvd_natCast->QdG,emod_nonneg->Qd4,dvd_mul_right->QeY,ofNat_lt->Qe0,natCast_add->Qfo,natAbs_mul->QfJ,dvd_trans->QfX
open Array renaming getElem?_setIfInBounds_self_of_lt->U_,getElem?_eq_some_iff->Qaz,length_toList->Qbz,getElem?_toList->QbR,perm_iff_toList_perm->Qdk,toArray_toList->Qec,find?_toList->Qer,ext_getElem?->Qex,toList->Qf4
open PySem.Obj renaming mapFields->Qah,mapSeq->QbK,data_mapFields->Qey
open False renaming elim->Qai
open PySem.PyData renaming eqvAll->Qao,canLay0->QaA,depth->QaU,eqv->Qbe,canLayAll0->Qdr,depthAll->Qd1
open LawfulBEq renaming eq_of_beq->QaQ
open PySem.Builtin.Str renaming occurrences->Qa3
open PyProof.Rows renaming slot_tuple_getitem->Qa6,envOfC->QbJ,callWith_type1->QbS,IntsAre->Qcl,AllBare->Qcy,boot_isinstance->Qc0,seqObj->Qdu,subscriptTail_builtinR->QdN,IsTup->Qfd
open PySem.Builtin.Slice renaming slicePlaces->Qbj,sliceAdjust->Qca,sliceApplied->Qdh,slicePartIndex->Qfh,sliceFields->QfQ
open PySem.Builtin.SmallTypes renaming nextOf->Qbk
open Classical renaming byContradiction->Qbl
open PySem.Builtin.Tuple renaming tupleExact->Qbu,tupleCompareSizes->Qe2,tupleItemsOf->Qfy
open Ne renaming symm->Qby
open Function renaming comp_apply->QbB,comp_def->QbV
open PySem.Builtin.Int renaming intBits->Qcc,intTooBig->Qd5
open PySem.Builtin.List renaming listTooLong->Qcg,listFitsIndex->Qdi
open Option renaming map_some->Qck,isSome_map->Qdq,getD_none->QdE,map_eq_some_iff->QdQ,getD_some->Qe8,map_none->Qfl,isSome->QfZ,map->Qgb
open PySem.Calls renaming callWith_builtin->QcD,Name_function_global->Qdb,evalArgs_plain->Qd9
open PySem.Builtin.ObjectAttr renaming storeInDict->QcO,newKeyGuard->Qe7
open PySem.Heap.SameBut renaming update->Qc2
open PySem.BindsTo renaming of_defaults->Qc3
open PySem.SeqAt.EqAt renaming int_int->Qdg,int_str->Qep,str_int->Qeq,same->Qfj
open PySem.W renaming findIn->Qdl,hideAll_get->Qea,hideAll->QeT,hideAll_none->QeU,isNs_of_in->QfD,of_hideAll->QfE
open PySem.Builtin.Range renaming rangeSize->QdB
open Eq renaming trans->QdI
open PySem.Around renaming under->QdK
open PySem.Heap.Ns renaming of_isNs->QdZ
open PySem.Challenge renaming pw_ringtrade_k40_rules->Qee,rw_ringtrade_k40_rules->Qef
open PySem.EntryCells renaming newEntry->Qek
open PySem.SeqAt renaming EqAt->Qes,shaped->Qf6
open PySem.Code renaming quiet_builtin->Qez,isFrame->QeL,isGuard->Qf5
open PySem.Heap.Ns1 renaming of_empty->QeJ
open PySem.MeetsSeq renaming EqGives->Qe5
open Sum.inl renaming inj->Qfc
open PyProof.Rows.SortSt renaming mk'->QfC
open PyProof.Rows.IntsAre renaming int_at->QfG,nums->Qf7
open PySem.Bind renaming checkArgs->QfI
open List.Perm renaming refl->QfK
open PySem.EqMixed renaming eq_bool_str->QfM,eq_str_bool->QfN,ne_bool_str->QfO,ne_str_bool->QfP,eq_int_str->QfS,eq_str_int->QfT,ne_int_str->QfU,ne_str_int->QfV
open PySem.Value renaming isStrOf->QfR,isInt->Qf8
open List.Pairwise renaming imp_of_mem->QfW
open PyProof.Rows.IsTup renaming new->Qf3
open Prod renaming ext->Qf9
open PySem.W.WShape renaming has->Qga
set_option Elab.async false
set_option linter.all false
set_option maxRecDepth 100000
set_option maxHeartbeats 4000000
section
namespace L2
open PySem PySem.Spec PyProof.Rows
abbrev bJ:=Sum Int Str
def pc:bJ->a_->Bool
|.inl k,v=>Qf8 k v
|.inr x,v=>QfR x v
def ED(w:Z_):bJ->Int
|.inl k=>hashInt k
|.inr x=>hashStr w x
theorem keyIs_shape:∀{k:bJ}{v:a_},pc k v=true->(∃i t,k=Sum.inl i/\v=Value.int i t)\/(∃x t,k=Sum.inr x/\v=Value.str x t)
|.inl i,v,h=>by obtain⟨t,e⟩:=Value.isInt_shape (k:=i) (v:=v) h;exact .inl ⟨i,t,rfl,e⟩
|.inr x,v,h=>by obtain⟨t,e⟩:=Value.isStrOf_shape (x:=x) (v:=v) h;exact .inr ⟨x,t,rfl,e⟩
theorem Si(i:Int)(t:Tok):pc (.inl i) (.int i t)=true:=by simp[pc,Qf8]
theorem Sj(x:Str)(t:Tok):pc (.inr x) (.str x t)=true:=by simp[pc,QfR]
theorem Ny(a b:Int):decide ((Sum.inl a:bJ)=Sum.inl b)=(a==b):=by
 by_cases e:a=b
 .subst e;simp
 .have h:¬ (Sum.inl a:bJ)=Sum.inl b:=fun q=>e (Qfc q);rw[decide_eq_false h];exact(beq_eq_false_iff_ne.mpr e).symm
theorem M4(a b:Str):decide ((Sum.inr a:bJ)=Sum.inr b)=decide (a=b):=by
 by_cases e:a=b
 .subst e;simp
 .have h:¬ (Sum.inr a:bJ)=Sum.inr b:=fun q=>e (Sum.inr.inj q);rw[decide_eq_false h,decide_eq_false e]
theorem Nz(a:Int)(b:Str):decide ((Sum.inl a:bJ)=Sum.inr b)=false:=decide_eq_false (fun q=>nomatch q)
theorem M3(a:Str)(b:Int):decide ((Sum.inr a:bJ)=Sum.inl b)=false:=decide_eq_false (fun q=>nomatch q)
def gO(prog:H_)(w:Z_):PySem.KeyKind prog w bJ where
 is:=pc
 hash:=ED w
 inj:=fun v a b ha hb=>by
  rcases keyIs_shape ha with⟨i,t,rfl,rfl⟩|⟨x,t,rfl,rfl⟩
  .rcases keyIs_shape hb with⟨j,u,rfl,e⟩|⟨y,u,rfl,e⟩
   .injection e with e1 _;rw[e1]
   .exact nomatch e
  .rcases keyIs_shape hb with⟨j,u,rfl,e⟩|⟨y,u,rfl,e⟩
   .exact nomatch e
   .injection e with e1 _;rw[e1]
 byValue:=fun k v h=>by rcases keyIs_shape h with⟨i,t,rfl,rfl⟩|⟨x,t,rfl,rfl⟩ <;> rfl
 pyHash:=fun hv h=>by
  rcases keyIs_shape hv with⟨i,t,rfl,rfl⟩|⟨x,t,rfl,rfl⟩
  .exact wpAny_pyHash_int h
  .exact wpAny_pyHash_str h
 eqBool:=fun hu hv h=>by
  rcases keyIs_shape hu with⟨i,t,rfl,rfl⟩|⟨x,t,rfl,rfl⟩
  .rcases keyIs_shape hv with⟨j,u,rfl,rfl⟩|⟨y,u,rfl,rfl⟩
   .rw[Ny]at h;exact wpAny_eqBool_int h
   .rw[Nz]at h;exact Qep i t y u _ _ _ _ h
  .rcases keyIs_shape hv with⟨j,u,rfl,rfl⟩|⟨y,u,rfl,rfl⟩
   .rw[M3]at h;exact Qeq x t j u _ _ _ _ h
   .rw[M4]at h;exact wpAny_eqBool_str h
 «strs»:=fun k x t v h=>by
  rcases keyIs_shape h with⟨i,u,rfl,e⟩|⟨y,u,rfl,e⟩
  .exact nomatch e
  .injection e with e1 _
   subst e1;cases v <;> rfl
theorem Um(prog:H_)(w:Z_)(i:Int)(t:Tok):(gO prog w).is (.inl i) (.int i t)=true:=Si i t
theorem Uo(prog:H_)(w:Z_)(x:Str)(t:Tok):(gO prog w).is (.inr x) (.str x t)=true:=Sj x t
inductive V where
 |non|bl (b:Bool)|int (i:Int)|str (x:Str)|byt (b:Array UInt8)|flt (b:UInt64)|ref (a:Addr)|ty (n:String)
 deriving DecidableEq
def bH:V->a_->Prop
|.non,u=>u=Value.none
|.bl b,u=>u=Value.bool b
|.int i,u=>∃t,u=Value.int i t
|.str x,u=>∃t,u=Value.str x t
|.byt b,u=>∃t,u=Value.bytes b t
|.flt b,u=>∃t,u=Value.float b t
|.ref a,u=>u=Value.ref a
|.ty n,u=>u=Value.type n
abbrev aP:List V->List a_->Prop:=Paired bH
theorem aP.length{xs:List V}{us:List a_}(r:aP xs us):xs.length=us.length:=Paired.length r
theorem aP.get:∀{xs:List V}{us:List a_}{i:Nat}{x:V},aP xs us->xs[i]? = some x->∃u,us[i]? = some u/\bH x u
|_,_,_,_,.nil,e=>by simp at e
|_,_,0,_,.cons r _,e=>by simp at e;subst e;exact⟨_,rfl,r⟩
|_,_,i+1,x,.cons _ t,e=>by obtain⟨u,h1,h2⟩:=aP.get (i:=i) (x:=x) t (by simpa using e);exact⟨u,by simpa using h1,h2⟩
theorem aP.set{x:V}{u:a_}(r:bH x u):∀{xs:List V}{us:List a_}(i:Nat),aP xs us->aP (xs.set i x) (us.set i u)
|_,_,_,.nil=>.nil
|_,_,0,.cons _ t=>.cons r t
|_,_,i+1,.cons q t=>.cons q (aP.set r i t)
theorem aP.append{xs ys:List V}{us ws:List a_}(h:aP xs us)(h':aP ys ws):aP (xs++ys) (us++ws):=by induction h with
|nil=>exact h'
|cons r _ ih=>exact .cons r ih
theorem aP.take:∀{xs:List V}{us:List a_}(n:Nat),aP xs us->aP (xs.take n) (us.take n)
|_,_,0,_=>.nil
|_,_,_+1,.nil=>.nil
|_,_,n+1,.cons r t=>.cons r (aP.take n t)
theorem aP.drop:∀{xs:List V}{us:List a_}(n:Nat),aP xs us->aP (xs.drop n) (us.drop n)
|_,_,0,r=>r
|_,_,_+1,.nil=>.nil
|_,_,n+1,.cons _ t=>aP.drop n t
def dL:Option V->Option a_->Prop
|some v,some u=>bH v u
|none,none=>True
|_,_=>False
def KV{κ:Type}:List (κ×V)->List (κ×a_)->Prop:=Paired fun(p:κ×V)(q:κ×a_)=>p.1=q.1/\bH p.2 q.2
def kV:bJ->V
|.inl i=>.int i
|.inr x=>.str x
inductive HO where
 |lst (xs:List V)
 |tup (xs:List V)
 |dK (kvs:List (bJ×V))|dT (kvs:List (List bJ×V))
 |set (S:Int->Bool) (n:Nat)
 |ins (C dx:Addr) (fs:List (Str×V))
 |own (x:Addr)
 |xd (fs:List (Str×V))
 |met (f x:Addr)
 |rng (lo hi:Int)
 |frz (o:Obj) (u:HO)
 |tbl (ps:Array a_)
 |ext (φ:Heap->Prop)
abbrev Hp:=Addr->Option HO
def aY(H:Hp)(a:Addr)(o:HO):Hp:=fun b=>if b=a then some o else H b
theorem cV{H:Hp}{a:Addr}{o:HO}:aY H a o a=some o:=by unfold aY;rw[if_pos rfl]
theorem bT{H:Hp}{a b:Addr}{o:HO}(h:b≠a):aY H a o b=H b:=by unfold aY;rw[if_neg h]
theorem Wq{H:Hp}{a b:Addr}{o u:HO}(h:H a=some o)(h':H b=some u)(d:o≠u):a≠b:=by intro e;subst e;rw[h]at h';exact d (J_ h')
theorem ng{H:Hp}{a b:Addr}{o:HO}(h:H a=some o)(h':H b=none):a≠b:=by intro e;subst e;rw[h]at h';cases h'
section
variable(P:H_)(w:Z_)
def cY(H:Hp)(h:Heap)(a:Addr):HO->Prop
|.lst xs=>xs.length<=sizeLine/\∃(its:List a_)(n:Nat),aP xs its/\h.get? a=some { cls:=.type "list",data:=.seq its.toArray n }
|.tup xs=>xs.length<=sizeLine/\∃its:List a_,aP xs its/\Qfd h a its.toArray/\∃o,h.get? a=some o/\o.dict=none
|.dK kvs=>kvs.length<=sizeLine/\(a==Qbs)=false/\∃vs,KV kvs vs/\h.DictOf (gO P w) a vs
| .dT kvs=>kvs.length<=sizeLine/\(a == Qbs)=false/\∃xs:List (List bJ × Addr × a_),
   Paired (fun(p:List bJ×V)(q:List bJ×Addr×a_)=>p.1=q.1/\H q.2.1=some (.tup (p.1.map kV))/\bH p.2 q.2.2) kvs xs /\∃o es ep,h.get? a=some o/\o.ExactDict/\o.data=.dict es ep/\es.toList=xs.map (entryOfKey (Qeg (gO P w)))/\(xs.map (·.1)).Nodup
|.set S n=>h.SetOf (intKind P w) a S n
| .ins C dx fs=>H dx=some (.own a)/\fs.length<=1000/\dx≠a/\h.get? a=some (W.instObj C dx) /\
   ∃mA,h.Ns1 dx mA/\(∀f,dL (fs.lookup f) (mA f))/\QeF mA (fs.map (·.1))
|.own _=>∃o,h.get? a=some o
|.xd fs=>∃mA,h.Ns1 a mA/\∀f,dL (fs.lookup f) (mA f)
|.rng lo hi=>∃t u v,h.get? a=some { cls:=.type "range",data:=.fields #[.int lo t,.int hi u,.int 1 v] }
|.frz o u=>h.get? a=some o/\cY H h a u
|.tbl ps=>h.get? a=some { cls:=.none,data:=.fields ps }
|.met f x=>h.get? a=some (W.methodObj (.ref f) (.ref x))
|.ext φ=>φ h/\(∃o,h.get? a=some o)/\∀h1 h2:Heap,φ h1->(∀o,h1.get? a=some o->h2.get? a=some o)->φ h2
def HOk(H:Hp)(h:Heap):Prop:=∀a o,H a=some o->cY P w H h a o
end
variable{P:H_}{w:Z_}{H H':Hp}{h h':Heap}{a:Addr}{o:HO}
theorem cY.lt(x:cY P w H h a o):a<h.objs.size:=by cases o with
|lst xs=>obtain⟨_,_,_,_,e⟩:=x;exact w_ e
|tup xs=>obtain⟨_,_,_,p,_⟩:=x;exact p.lt
|dK kvs=>obtain⟨_,_,_,_,o,_,_,e,_⟩:=x;exact w_ e
|dT kvs=>obtain⟨_,_,_,_,o,_,_,e,_⟩:=x;exact w_ e
|set S n=>obtain⟨o,_,_,_,e,_⟩:=x;exact w_ e
|ins C dx fs=>obtain⟨_,_,_,e,_⟩:=x;exact w_ e
|own y=>obtain⟨_,e⟩:=x;exact w_ e
|xd fs=>obtain⟨_,⟨_,_,_,e,_⟩,_⟩:=x;exact w_ e
|rng lo hi=>obtain⟨_,_,_,e⟩:=x;exact w_ e
|frz ob u=>obtain⟨e,_⟩:=x;exact w_ e
|tbl ps=>exact w_ (show h.get? a=some _ from x)
|met f y=>exact w_ (show h.get? a=some _ from x)
|ext φ=>obtain⟨_,⟨_,e⟩,_⟩:=x;exact w_ e
theorem Paired.mapP{α β:Type}{F G:α->β->Prop}{Y:List α}{U:List β}(h:Paired F Y U)(f:∀a b,F a b->G a b):Paired G Y U:=by induction h with
|nil=>exact .nil
|cons r _ ih=>exact .cons (f _ _ r) ih
theorem cY.stay(x:cY P w H h a o)(k:∀b u,(b=a\/H b=some (.own a))->h.get? b=some u->h'.get? b=some u)(ho:∀b,H b=some (.own a)->H' b=some (.own a))(ht:∀b xs,H b=some (.tup xs)->H' b=some (.tup xs)):cY P w H' h' a o:=by induction o with
|lst xs=>obtain⟨z,its,n,r,e⟩:=x;exact⟨z,its,n,r,k _ _ (.inl rfl) e⟩
|tup xs=>obtain⟨z,its,r,⟨ob,e,c⟩,U,e2,c2⟩:=x;exact⟨z,its,r,⟨ob,k _ _ (.inl rfl) e,c⟩,U,k _ _ (.inl rfl) e2,c2⟩
|dK kvs=>obtain⟨z,y,vs,r,ob,es,ep,e,c⟩:=x;exact⟨z,y,vs,r,ob,es,ep,k _ _ (.inl rfl) e,c⟩
|dT kvs=>obtain⟨z,y,xs,r,ob,es,ep,e,c⟩:=x;exact⟨z,y,xs,Paired.mapP r fun p q z=>⟨z.1,ht _ _ z.2.1,z.2.2⟩,ob,es,ep,k _ _ (.inl rfl) e,c⟩
|set S n=>obtain⟨ob,es,ep,t,e,c⟩:=x;exact⟨ob,es,ep,t,k _ _ (.inl rfl) e,c⟩
|ins C dx fs=>obtain⟨d,z,ne,e,mA,⟨od,es,ep,e2,c⟩,r⟩:=x;exact⟨ho _ d,z,ne,k _ _ (.inl rfl) e,mA,⟨od,es,ep,k _ _ (.inr d) e2,c⟩,r⟩
|own y=>obtain⟨ob,e⟩:=x;exact⟨ob,k _ _ (.inl rfl) e⟩
|xd fs=>obtain⟨mA,⟨od,es,ep,e,c⟩,r⟩:=x;exact⟨mA,⟨od,es,ep,k _ _ (.inl rfl) e,c⟩,r⟩
|rng lo hi=>obtain⟨t,u,v,e⟩:=x;exact⟨t,u,v,k _ _ (.inl rfl) e⟩
|frz ob u ih=>obtain⟨e,q⟩:=x;exact⟨k _ _ (.inl rfl) e,ih q⟩
|tbl ps=>have e:h.get? a=some { cls:=.none,data:=.fields ps }:=x;show h'.get? a=some { cls:=.none,data:=.fields ps };exact k a _ (.inl rfl) e
|met f y=>have e:h.get? a=some (W.methodObj (.ref f) (.ref y)):=x;show h'.get? a=some (W.methodObj (.ref f) (.ref y));exact k a _ (.inl rfl) e
|ext φ=>obtain⟨p,⟨o,e⟩,st⟩:=x;exact⟨st _ _ p fun o q=>k _ _ (.inl rfl) q,⟨o,k _ _ (.inl rfl) e⟩,st⟩
theorem HOk.lt(x:HOk P w H h)(e:H a=some o):a<h.objs.size:=(x a o e).lt
theorem HOk.fresh(x:HOk P w H h)(e:h.objs.size<=a):H a=none:=by cases q:H a with
|none=>rfl
|some u=>exact absurd (G_ (x.lt q) e) (QaB _)
theorem HOk.kept(x:HOk P w H h)(k:∀b u,h.get? b=some u->h'.get? b=some u):HOk P w H h':=fun a o e=>(x a o e).stay (fun b u _ q=>k b u q) (fun _ q=>q) fun _ _ q=>q
theorem HOk.laid(x:HOk P w H h)(k:∀b u,h.get? b=some u->h'.get? b=some u)(hp:h.objs.size<=a)(new:cY P w (aY H a o) h' a o):HOk P w (aY H a o) h':=fun b u e=>by
 have hn:=x.fresh hp;by_cases hb:b=a
 .subst hb;rw[cV]at e;cases e;exact new
 .rw[bT hb]at e;exact(x b u e).stay (fun c v _ q=>k c v q) (fun c q=>by rw[bT (ng q hn)];exact q) fun c xs q=>by rw[bT (ng q hn)];exact q
def Rd(H:Hp)(a:Addr)(u:HO):Prop:=H a=some u\/∃o,H a=some (.frz o u)
theorem Rd.ok{P:H_}{w:Z_}{H:Hp}{h:Heap}{a:Addr}{u:HO}(r:Rd H a u)(x:HOk P w H h):cY P w H h a u:=by
 rcases r with r|⟨o,r⟩
 .exact x a u r
 .obtain⟨_,q⟩:=x a _ r;exact q
def tK:Option HO->Prop
|some (.lst _)=>True
|some (.dK _)=>True
|some (.dT _)=>True
|some (.set _ _)=>True
|some (.ins _ _ _)=>True
|some (.ext _)=>True
|_=>False
section
variable{x e:Addr}{o':HO}
theorem HOk.write(ok:HOk P w H h)(mu:tK (H x))(he:e=x\/H e=some (.own x))(k:∀b u,b≠e->h.get? b=some u->h'.get? b=some u)(Z:∃u,h'.get? e=some u)(new:cY P w (aY H x o') h' x o'):HOk P w (aY H x o') h':=fun b u q=>by
 have U:∀c y,H c=some (.own y)->c≠x:=fun c y r z=>by subst z;rw[r]at mu;exact mu
 have Y:∀c xs,H c=some (.tup xs)->c≠x:=fun c xs r z=>by subst z;rw[r]at mu;exact mu
 by_cases hb:b=x
 .subst hb;rw[cV]at q;cases q;exact new
 .rw[bT hb]at q;by_cases hbe:b=e
  .have q':H b=some (.own x):=by
    rcases he with z|z
    .exact absurd (hbe.trans z) hb
    .rw[hbe];exact z
   rw[q]at q';cases q';obtain⟨v,hv⟩:=Z;exact⟨v,by rw[hbe];exact hv⟩
  .refine(ok b u q).stay (fun c v hc r=>k c v ?_ r) (fun c r=>by rw[bT (U c b r)];exact r) fun c xs r=>by rw[bT (Y c xs r)];exact r
   rcases hc with rfl|hc
   .exact hbe
   .rintro rfl
    rcases he with z|z
    .exact U c b hc z
    .rw[hc]at z;cases z;exact hb rfl
end
structure Un(fs ex:List Addr)(H H':Hp)(h h':Heap):Prop where
 keep:∀b o,h.get? b=some o->H b=none->b∉fs->b∉ex->h'.get? b=some o
 slot:∀b o,h.get? b=some o->H b=none->b∈fs->b∉ex->∃sl,h'.get? b=some { o with slots:=sl }
 free:∀b o,h.get? b=some o->H b=none->b∉ex->H' b=none
 there:∀b o,h.get? b=some o->b∉ex->∃o',h'.get? b=some o'
 tups:∀b xs,H b=some (.tup xs)->H' b=some (.tup xs)
 frzs:∀b o u,H b=some (.frz o u)->H' b=some (.frz o u)
 tbls:∀b ps,H b=some (.tbl ps)->∃more,H' b=some (.tbl (ps++more))
section
variable{fs fs' ex ex':List Addr}{H1 H2:Hp}{h1 h2:Heap}{x e:Addr}
theorem Un.any(u:Un fs ex H H1 h h1){b:Addr}{ob:Obj}(q:h.get? b=some ob)(n:H b=none)(hx:b∉ex):∃sl,h1.get? b=some { ob with slots:=sl }:=by
 by_cases hb:b∈fs
 .exact u.slot b ob q n hb hx
 .exact⟨ob.slots,u.keep b ob q n hb hx⟩
theorem Un.kept(k:∀b u,h.get? b=some u->h'.get? b=some u):Un fs ex H H h h':=⟨fun b ob q _ _ _=>k b ob q,fun b ob q _ _ _=>⟨ob.slots,k b ob q⟩,fun _ _ _ n _=>n,fun b ob q _=>⟨ob,k b ob q⟩,fun _ _ q=>q,fun _ _ _ q=>q,fun _ ps q=>⟨#[],by rw[q];simp⟩⟩
theorem Un.refl:Un fs ex H H h h:=Un.kept fun _ _ q=>q
theorem Un.laid(k:∀b u,h.get? b=some u->h'.get? b=some u)(hp:h.objs.size<=a)(hn:H a=none):Un fs ex H (aY H a o) h h' where
 keep:=fun b u q _ _ _=>k b u q
 slot:=fun b u q _ _ _=>⟨u.slots,k b u q⟩
 free:=fun b u q n _=>by rw[bT (S_ (G_ (w_ q) hp))];exact n
 there:=fun b u q _=>⟨u,k b u q⟩
 tups:=fun b xs q=>by rw[bT (ng q hn)];exact q
 frzs:=fun b u xs q=>by rw[bT (ng q hn)];exact q
 tbls:=fun b ps q=>⟨#[],by rw[bT (ng q hn),q];simp⟩
theorem Un.write(mu:tK (H x))(he:e=x\/H e=some (.own x))(k:∀b u,b≠e->h.get? b=some u->h'.get? b=some u)(U:∃u,h'.get? e=some u):Un fs ex H (aY H x o) h h':=by
 have hx:∀b,H b=none->b≠x:=fun b n z=>by subst z;rw[n]at mu;exact mu
 have hb:∀b,H b=none->b≠e:=fun b n z=>by
  subst z;rcases he with r|r
  .exact hx b n r
  .rw[n]at r;cases r
 have hm:∀b u,H b=some u->¬ tK (some u)->b≠x:=fun b u q nm z=>by subst z;rw[q]at mu;exact nm mu
 refine⟨fun b u q n _ _=>k b u (hb b n) q,fun b u q n _ _=>⟨u.slots,k b u (hb b n) q⟩,fun b u q n _=>by rw[bT (hx b n)];exact n,fun b u q _=>?_,fun b xs q=>by rw[bT (hm b _ q fun z=>z)];exact q,fun b u xs q=>by rw[bT (hm b _ q fun z=>z)];exact q,fun b ps q=>⟨#[],by rw[bT (hm b _ q fun z=>z),q];simp⟩⟩;by_cases hbe:b=e
 .subst hbe;exact U
 .exact⟨u,k b u hbe q⟩
end
def trk(h:Heap)(H:Hp):List Addr:=(e_ h.objs.size).filter fun a=>(H a).isSome
def gY(h:Heap)(H:Hp):Heap:=W.hideAll h (trk h H)
theorem Sx(h:Heap)(H:Hp):(gY h H).objs.size=h.objs.size:=W.hideAll_size _ _
theorem Q0{h:Heap}{H:Hp}{b:Addr}{o:Obj}(e:h.get? b=some o)(n:H b=none):(gY h H).get? b=some o:=W.hideAll_get _ e fun hm=>by have q:(H b).isSome=true:=(D_.mp hm).2;rw[n]at q;simp at q
theorem Oz{h:Heap}{H:Hp}{b:Addr}{o:Obj}(e:(gY h H).get? b=some o):h.get? b=some o/\H b=none:=by have e':h.get? b=some o:=W.of_hideAll (trk h H) e;refine⟨e',?_⟩;cases q:H b with
|none=>rfl
|some x=>have hm:b∈trk h H:=D_.mpr ⟨z_.mpr (w_ e'),by simp[q]⟩;have z:(gY h H).get? b=none:=W.hideAll_none (trk h H) hm;rw[z]at e;cases e
def rj(g h:Heap)(L:Addr):List (Addr×Obj):=(e_ h.objs.size).filterMap fun a=>if a=L\/(g.get? a).isSome=true then none else(h.get? a).map fun o=>(a,o)
theorem Ka{g h:Heap}{L a:Addr}{o:Obj}(h1:a≠L)(h2:g.get? a=none)(h3:h.get? a=some o):(a,o)∈rj g h L:=QaK.mpr ⟨a,z_.mpr (w_ h3),by simp[h1,h2,h3]⟩
theorem U6{g h:Heap}{L:Addr}{p:Addr×Obj}(hp:p∈rj g h L):p.1≠L/\g.get? p.1=none/\h.get? p.1=some p.2:=by
 obtain⟨b,_,e⟩:=QaK.mp hp;split at e
 .cases e
 .rename_i hn;cases q:h.get? b with
 |none=>rw[q]at e;simp at e
 |some u=>rw[q]at e;simp only[Qck,QeG]at e;subst e;refine⟨fun z=>hn (.inl z),?_,q⟩;show g.get? b=none;cases r:g.get? b with
  |none=>rfl
  |some v=>exact(hn (.inr (by simp[r]))).elim
def rest(g h:Heap)(L d:Addr):List (Addr×Obj):=(rj g h L).filter fun p=>decide (p.1≠d)
theorem Qw{g h:Heap}{L:Addr}:News g L h (rj g h L):=fun p hp=>let⟨a,b,c⟩:=U6 hp;⟨c,a,b⟩
structure Mod(K:W.Frag)(mg:Str->Option a_)(base:Heap):Prop where
 kin:K.In base
 glob:base.Ns N_ mg
 blt:∃mb,base.Ns Qfr mb/\∀x:Str,x≠"__name__"->mb x=Qb4 x
 nolimit:base.NoLimit
structure Cx where
 prog:H_
 w:Z_
 K:W.Frag
 mg:Str->Option a_
 base:Heap
 A:Qag
 N:List Str
 s₀:c_
 H₀:Hp
 env:Env
 outer:List Env
 stack:List Env
 ex:List Addr
 fn:Str->Bool
 calm:Bool
 pn:List (Addr×Obj)
 xe:a_->c_->Prop
def dh(l:List Env):List Addr:=l.filterMap (·.frame)
abbrev Cx.fs(X:Cx):List Addr:=dh X.outer
def iY(sc:Qct)(x:Str):Prop:=sc.names.lookup x=some .local\/sc.names.lookup x=some .cell\/sc.names.lookup x=some .free
def kF(sc:Qct)(x:Str):Prop:=sc.names.lookup x=some .local\/sc.names.lookup x=some .cell
theorem dw{sc:Qct}{x:Str}(h:(match sc.names.lookup x with|some .local=>true|some .cell=>true|some .free=>true|_=>false)=true):iY sc x:=by
 revert h;unfold iY;split<;>intro h
 .exact .inl (by assumption)
 .exact .inr (.inl (by assumption))
 .exact .inr (.inr (by assumption))
 .cases h
def ET(env:Env)(h:Heap)(m:Str->Option a_)(x:Str)(u:a_):Prop:=(env.kindOf x=some .local/\m x=some u)\/((env.kindOf x=some .cell\/env.kindOf x=some .free)/\∃c,env.cells.lookup x=some c/\h.IsCell c (some u))
structure Cx.Ok(X:Cx):Prop where
 mod:Mod X.K X.mg X.base
 kind:X.env.scope.kind=.function
 glob:X.env.globals=N_
 blt:X.env.builtins=Qfr
 above:X.s₀.heap.objs.size<=X.env.locals
 inj:∀x y c,X.env.cells.lookup x=some c->X.env.cells.lookup y=some c->x=y
 has:∀x,(X.env.kindOf x=some .cell\/X.env.kindOf x=some .free)->∃c,X.env.cells.lookup x=some c
 cab:∀x c,X.fn x=true->X.env.cells.lookup x=some c->X.s₀.heap.objs.size<=c
 hd:X.calm=true->X.A.handled=none
 frames:X.A.frames=some X.stack
 stk:X.stack=X.outer\/(X.stack=X.env::X.outer/\X.env.frame=some X.env.locals)
 exf:∀b∈X.ex,b≠X.env.locals/\∀x c,X.env.cells.lookup x=some c->c≠b
 bs:∀b o,X.base.get? b=some o->X.s₀.heap.get? b=some o/\X.H₀ b=none
 bsz:X.base.objs.size<=X.s₀.heap.objs.size
 noex:∀b o,X.base.get? b=some o->b∉X.ex
 exfs:∀b∈X.ex,b∉X.fs
 funs:X.s₀.heap.FunFrames X.base X.outer
 frf:∀b∈X.fs,X.H₀ b=none
structure Inv(X:Cx)(pz:List (Addr×Obj))(σ:List (Option V))(H:Hp)(s:c_):Prop where
 ok:X.Ok
 os:s.os=X.s₀.os
 bare:Qcy s.gens
 base:Un X.fs X.ex X.H₀ H X.s₀.heap s.heap
 loc:∃m,s.heap.Ns X.env.locals m/\∀(i:Nat)(x:Str)(v:V),X.N[i]? = some x->σ[i]? = some (some v)->iY X.env.scope x->∃u,bH v u/\ET X.env s.heap m x u
 cell:∀x c,X.env.cells.lookup x=some c->∃v,s.heap.IsCell c v
 free:H X.env.locals=none
 freeC:∀x c,X.env.cells.lookup x=some c->H c=none
 pin:∀p∈X.pn++pz,s.heap.get? p.1=some p.2/\H p.1=none/\p.1≠X.env.locals/\p.1∉X.fs/\∀v,p.2.data≠.cell v
 hok:HOk X.prog X.w H s.heap
 len:σ.length=X.N.length
variable{X:Cx}{pz:List (Addr×Obj)}{s:c_}
section
variable{σ:List (Option V)}
theorem Cx.Ok.nofr(ok:X.Ok){b:Addr}{o:Obj}(e:X.base.get? b=some o):b∉X.fs:=fun hb=>by have:=(ok.funs.mem hb).1;rw[e]at this;cases this
theorem Inv.bs(I:Inv X pz σ H s):∀b o,X.base.get? b=some o->s.heap.get? b=some o/\H b=none:=fun b o e=>⟨I.base.keep b o (I.ok.bs b o e).1 (I.ok.bs b o e).2 (I.ok.nofr e) (I.ok.noex b o e),I.base.free b o (I.ok.bs b o e).1 (I.ok.bs b o e).2 (I.ok.noex b o e)⟩
theorem Inv.bk(I:Inv X pz σ H s):∀b o,X.base.get? b=some o->s.heap.get? b=some o:=fun b o e=>(I.bs b o e).1
theorem Inv.mod(I:Inv X pz σ H s):Mod X.K X.mg X.base:=I.ok.mod
theorem Inv.kIn(I:Inv X pz σ H s):X.K.In s.heap:=I.ok.mod.kin.keeps I.bk
theorem Inv.fr(I:Inv X pz σ H s):∃m,Fr X.base X.env.locals s.heap m:=let⟨m,hn,_⟩:=I.loc
 ⟨m,hn,I.bk,L_ I.ok.bsz I.ok.above⟩
theorem Inv.lt(I:Inv X pz σ H s):X.env.locals<s.heap.objs.size:=let⟨_,hn,_⟩:=I.loc;hn.lt
theorem Inv.sz(I:Inv X pz σ H s):X.s₀.heap.objs.size<=s.heap.objs.size:=L_ I.ok.above (QeH I.lt)
theorem Inv.nofs(I:Inv X pz σ H s){a:Addr}(h:s.heap.objs.size<=a):a∉X.fs:=fun hb=>by obtain⟨_,o,ho,_⟩:=I.ok.funs.mem hb;exact absurd (G_ (w_ ho) (L_ I.sz h)) (QaB _)
theorem Inv.cne(I:Inv X pz σ H s):∀x c,X.env.cells.lookup x=some c->c≠X.env.locals:=fun x c e z=>by obtain⟨v,o,ho,hd⟩:=I.cell x c e;obtain⟨m,⟨o',es,ep,ho',U,_⟩,_⟩:=I.loc;rw[z,ho']at ho;cases ho;rw[U]at hd;cases hd
theorem Inv.funs(I:Inv X pz σ H s):s.heap.FunFrames X.base X.outer:=by
 have all:∀(l:List Env),(∀b∈dh l,b∈X.fs)->X.s₀.heap.FunFrames X.base l->s.heap.FunFrames X.base l:=by
  intro l
  induction l with
 |nil=>intro _ _;trivial
 |cons env r ih=>intro hs hl;obtain⟨hk,⟨L,o,hf,hn,ho,hd⟩,hr⟩:=hl;have hL:L∈X.fs:=hs L (by unfold dh;rw[Qaw,hf];exact j_);obtain⟨sl,e⟩:=I.base.slot L o ho (I.ok.frf L hL) hL fun z=>I.ok.exfs L z hL;exact⟨hk,⟨L,_,hf,hn,e,hd⟩,ih (fun b hb=>hs b (by unfold dh;rw[Qaw,hf];exact k_ _ hb)) hr⟩
 exact all X.outer (fun _ hb=>hb) I.ok.funs
theorem Inv.stack(I:Inv X pz σ H s):s.heap.FunFrames X.base X.stack:=by
 rcases I.ok.stk with e|⟨e,hf⟩
 .rw[e];exact I.funs
 .rw[e];obtain⟨m,hn,_⟩:=I.loc;refine .cons (by rw[I.ok.kind];decide) hf hn ?_ I.funs;exact Qbp (L_ I.ok.bsz I.ok.above)
theorem Inv.stkSub(I:Inv X pz σ H s):∀b∈dh X.stack,b∈X.env.locals::X.fs:=fun b hb=>by
 rcases I.ok.stk with e|⟨e,hf⟩
 .rw[e]at hb;exact k_ _ hb
 .rw[e]at hb;unfold dh at hb;rw[Qaw,hf]at hb;exact hb
theorem Inv.stkFree(I:Inv X pz σ H s):∀b∈dh X.stack,H b=none:=fun b hb=>by
 rcases t_.mp (I.stkSub b hb)with e|hb
 .rw[e];exact I.free
 .obtain⟨_,o,ho,_⟩:=I.ok.funs.mem hb;exact I.base.free b o ho (I.ok.frf b hb) fun z=>I.ok.exfs b z hb
theorem Inv.step{g':Array GenState}{t':Nat}{d':Drawn}{ch:List Addr}(I:Inv X pz σ H s)(U:∀b∈ch,(b∈X.ex\/X.s₀.heap.objs.size<=b)/\b≠X.env.locals/\(∀x c,X.env.cells.lookup x=some c->c≠b)/\∀p∈X.pn++pz,p.1≠b)(keep:∀b o,b≠X.env.locals->b∉X.fs->b∉ch->s.heap.get? b=some o->H b=none->h'.get? b=some o)(slot:∀b o,b≠X.env.locals->b∈X.fs->b∉ch->s.heap.get? b=some o->H b=none->∃sl,h'.get? b=some { o with slots:=sl })(free:∀b o,b∉ch->s.heap.get? b=some o->H b=none->H' b=none)(there:∀b o,b∉ch->s.heap.get? b=some o->∃o',h'.get? b=some o')(tups:∀b xs,H b=some (.tup xs)->H' b=some (.tup xs))(frzs:∀b o u,H b=some (.frz o u)->H' b=some (.frz o u))(tbls:∀b ps,H b=some (.tbl ps)->∃more,H' b=some (.tbl (ps++more)))(ns:∀m,s.heap.Ns X.env.locals m->h'.Ns X.env.locals m)(hok:HOk X.prog X.w H' h')(hg:Qcy g'):Inv X pz σ H' { s with heap:=h',gens:=g',drawn:=d',toks:=t' }:=by
 have Cl:∀b o,X.s₀.heap.get? b=some o->b≠X.env.locals:=fun b o e=>S_ (G_ (w_ e) I.ok.above);have BT:∀b o,X.s₀.heap.get? b=some o->b∉X.ex->b∉ch:=fun b o e hx hb=>by
  rcases(U b hb).1 with z|z
  .exact hx z
  .exact absurd (G_ (w_ e) z) (QaB _)
 have Z:∀x c,X.env.cells.lookup x=some c->∀v,s.heap.IsCell c v->h'.IsCell c v:=fun x c e v ⟨o,ho,hd⟩=>by
  have Y:c∉ch:=fun z=>(U c z).2.2.1 x c e rfl;by_cases hc:c∈X.fs
  .obtain⟨sl,q⟩:=slot c o (I.cne x c e) hc Y ho (I.freeC x c e);exact⟨_,q,hd⟩
  .exact⟨o,keep c o (I.cne x c e) hc Y ho (I.freeC x c e),hd⟩
 refine⟨I.ok,I.os,hg,⟨fun b o e n hb hx=>?_,fun b o e n hb hx=>?_,fun b o e n hx=>?_,fun b o e hx=>?_,fun b xs e=>tups b xs (I.base.tups b xs e),fun b o xs e=>frzs b o xs (I.base.frzs b o xs e),fun b ps e=>?_⟩,?_,fun x c e=>?_,?_,fun x c e=>?_,fun p hp=>?_,hok,I.len⟩
 .exact keep b o (Cl b o e) hb (BT b o e hx) (I.base.keep b o e n hb hx) (I.base.free b o e n hx)
 .obtain⟨sl,e1⟩:=I.base.slot b o e n hb hx;obtain⟨Id,e2⟩:=slot b _ (Cl b o e) hb (BT b o e hx) e1 (I.base.free b o e n hx);exact⟨Id,e2⟩
 .obtain⟨o',e1⟩:=I.base.there b o e hx;exact free b o' (BT b o e hx) e1 (I.base.free b o e n hx)
 .obtain⟨o',e1⟩:=I.base.there b o e hx;exact there b o' (BT b o e hx) e1
 .obtain⟨m1,e1⟩:=I.base.tbls b ps e;obtain⟨m2,e2⟩:=tbls b _ e1;exact⟨m1++m2,by rw[e2,Array.append_assoc]⟩
 .obtain⟨m,hn,hl⟩:=I.loc;refine⟨m,ns m hn,fun i x v e1 e2 e3=>?_⟩;obtain⟨u,r,l⟩:=hl i x v e1 e2 e3;refine⟨u,r,?_⟩;rcases l with l|⟨k,c,e,z⟩
  .exact .inl l
  .exact .inr ⟨k,c,e,Z x c e _ z⟩
 .obtain⟨v,z⟩:=I.cell x c e;exact⟨v,Z x c e v z⟩
 .obtain⟨m,⟨o,_,_,ho,_⟩,_⟩:=I.loc;exact free _ o (fun z=>(U _ z).2.1 rfl) ho I.free
 .obtain⟨v,o,ho,hd⟩:=I.cell x c e;exact free c o (fun z=>(U c z).2.2.1 x c e rfl) ho (I.freeC x c e)
 .obtain⟨e,n,ne,nf,d⟩:=I.pin p hp;have Y:p.1∉ch:=fun z=>(U p.1 z).2.2.2 p hp rfl;exact⟨keep p.1 p.2 ne nf Y e n,free p.1 p.2 Y e n,ne,nf,d⟩
theorem Inv.un{t':Nat}(I:Inv X pz σ H s)(u:Un X.fs [] H H' s.heap h')(hok:HOk X.prog X.w H' h'):Inv X pz σ H' { s with heap:=h',toks:=t' }:=by obtain⟨m,⟨o,es,ep,ho,r⟩,_⟩:=id I.loc;obtain⟨sl,hL⟩:=u.any ho I.free (by simp);exact I.step (g':=s.gens) (d':=s.drawn) (ch:=[]) (fun _ z=>nomatch z) (fun b o _ hb _ e n=>u.keep b o e n hb (by simp)) (fun b o _ hb _ e n=>u.slot b o e n hb (by simp)) (fun b o _ e n=>u.free b o e n (by simp)) (fun b o _ e=>u.there b o e (by simp)) u.tups u.frzs u.tbls (fun m' hm=>by obtain⟨o',es',U,ho',r'⟩:=hm;rw[ho]at ho';cases ho';exact⟨_,es',U,hL,r'⟩) hok I.bare
theorem Inv.call{g':Array GenState}{t':Nat}{d':Drawn}{ch:List Addr}(I:Inv X pz σ H s)(u:Un (dh X.stack) ch H H' s.heap h')(hok:HOk X.prog X.w H' h')(hg:Qcy g')(U:∀b∈ch,(b∈X.ex\/X.s₀.heap.objs.size<=b)/\b≠X.env.locals/\(∀x c,X.env.cells.lookup x=some c->c≠b)/\∀p∈X.pn++pz,p.1≠b):Inv X pz σ H' { s with heap:=h',gens:=g',drawn:=d',toks:=t' }:=by obtain⟨m,⟨o,es,ep,ho,r⟩,_⟩:=id I.loc;obtain⟨sl,hL⟩:=u.any ho I.free fun z=>(U _ z).2.1 rfl;exact I.step (ch:=ch) U (fun b o hL hb hc e n=>u.keep b o e n (fun z=>(t_.mp (I.stkSub b z)).elim hL hb) hc) (fun b o _ _ hc e n=>u.any e n hc) (fun b o hc e n=>u.free b o e n hc) (fun b o hc e=>u.there b o e hc) u.tups u.frzs u.tbls (fun m' hm=>by obtain⟨o',es',Y,ho',r'⟩:=hm;rw[ho]at ho';cases ho';exact⟨_,es',Y,hL,r'⟩) hok hg
theorem Inv.turned{t':Nat}{it:Addr}(I:Inv X pz σ H s)(k:∀b o,b≠it->s.heap.get? b=some o->h'.get? b=some o)(hn:H it=none)(hL:it≠X.env.locals)(h1:it∈X.ex\/X.s₀.heap.objs.size<=it)(h2:∀x c,X.env.cells.lookup x=some c->c≠it)(h3:∀p∈X.pn++pz,p.1≠it):Inv X pz σ H { s with heap:=h',toks:=t' }:=by
 have U:∀b u,H b=some u->b≠it:=fun b u e z=>by rw[z,hn]at e;cases e
 refine I.step (g':=s.gens) (d':=s.drawn) (ch:=[it]) (fun b hb=>?_) (fun b o _ _ hc e _=>k b o (fun z=>hc (by simp[z])) e) (fun b o _ _ hc e _=>⟨o.slots,k b o (fun z=>hc (by simp[z])) e⟩) (fun _ _ _ _ n=>n)
  (fun b o hc e=>⟨o,k b o (fun z=>hc (by simp[z])) e⟩) (fun _ _ e=>e) (fun _ _ _ e=>e) (fun b ps e=>⟨#[],by rw[e];simp⟩) (fun m hm=>?_) (fun b u e=>?_) I.bare
 .have e:b=it:=by simpa using hb
  subst e;exact⟨h1,hL,h2,h3⟩
 .obtain⟨o,es,ep,ho,r⟩:=hm;exact⟨o,es,ep,k _ o (Qby hL) ho,r⟩
 .refine(I.hok b u e).stay (fun c v hc q=>k c v ?_ q) (fun _ q=>q) fun _ _ q=>q;rcases hc with z|z
  .rw[z];exact U b u e
  .exact U c _ z
theorem Inv.tok(I:Inv X pz σ H s)(t:Nat):Inv X pz σ H { s with toks:=t }:=I.un (h':=s.heap) (t':=t) Un.refl I.hok
theorem Inv.kept{t':Nat}(I:Inv X pz σ H s)(k:∀b u,s.heap.get? b=some u->h'.get? b=some u):Inv X pz σ H { s with heap:=h',toks:=t' }:=I.un (Un.kept k) (I.hok.kept k)
theorem Inv.laid{a:Addr}{o:HO}{t':Nat}(I:Inv X pz σ H s)(k:∀b u,s.heap.get? b=some u->h'.get? b=some u)(hp:s.heap.objs.size<=a)(new:cY X.prog X.w (aY H a o) h' a o):Inv X pz σ (aY H a o) { s with heap:=h',toks:=t' }:=I.un (Un.laid k hp (I.hok.fresh hp)) (I.hok.laid k hp new)
theorem Inv.write{x e:Addr}{o:HO}{t':Nat}(I:Inv X pz σ H s)(mu:tK (H x))(he:e=x\/H e=some (.own x))(k:∀b u,b≠e->s.heap.get? b=some u->h'.get? b=some u)(U:∃u,h'.get? e=some u)(new:cY X.prog X.w (aY H x o) h' x o):Inv X pz σ (aY H x o) { s with heap:=h',toks:=t' }:=I.un (Un.write mu he k U) (I.hok.write mu he k U new)
theorem Inv.pins_of{pins':List (Addr×Obj)}(I:Inv X pz σ H s)(h:∀p∈pins',s.heap.get? p.1=some p.2/\H p.1=none/\p.1≠X.env.locals/\p.1∉X.fs/\∀v,p.2.data≠.cell v):Inv X pins' σ H s:=⟨I.ok,I.os,I.bare,I.base,I.loc,I.cell,I.free,I.freeC,fun p hp=>(QaJ.mp hp).elim (fun z=>I.pin p (QaN _ z)) (h p),I.hok,I.len⟩
theorem Ii{N:List Str}(hN:N.Nodup){i j:Nat}{x:Str}(a:N[i]? = some x)(b:N[j]? = some x):i=j:=by obtain⟨h1,e1⟩:=m_.mp a;obtain⟨h2,e2⟩:=m_.mp b;exact(List.getElem_inj hN).mp (e1.trans e2.symm)
theorem Jt{M:Qfs}{A:Qag}{E:a_->c_->Prop}{i:Nat}{x:Str}{v:V}{u:a_}{Q:Unit->c_->Prop}(I:Inv X pz σ H s)(hN:X.N.Nodup)(hi:X.N[i]? = some x)(hx:kF X.env.scope x)(r:bH v u)(h:∀s',Inv X pz (σ.set i (some v)) H s'->(∃a,Qc5 a s.heap s'.heap/\(a=X.env.locals\/X.env.cells.lookup x=some a))->Q () s')(hf:X.fn x=true\/X.env.scope.names.lookup x=some .local:=by first|exact .inl rfl|exact .inr rfl|assumption):x_ M A (storeName X.env x u) Q E s:=by
 obtain⟨m,hn,hl⟩:=id I.loc;have IO:(X.env.scope.kind==.class || (X.env.scope.kind==.module&&X.env.locals != X.env.globals))=false:=by rw[I.ok.kind];rfl
 have Z:i<σ.length:=by rw[I.len];exact(m_.mp hi).1
 have cne:=I.cne;have U:∀{a:Addr}{h':Heap},(∃o,s.heap.get? a=some o/\H a=none)->Qc5 a s.heap h'->HOk X.prog X.w H h':=fun{a h'} ha hs b ob e=>by
  obtain⟨_,_,Y⟩:=ha;refine(I.hok b ob e).stay (fun c w' hc q=>(hs.2 c ?_).trans q) (fun _ q=>q) fun _ _ q=>q
  rintro rfl
  rcases hc with rfl|hc
  .rw[Y]at e;cases e
  .rw[Y]at hc;cases hc
 rcases hx with hk|hk
 .refine wpAny_storeName_local hk hn (fun h' LE hs=>?_) IO;obtain⟨oL,_,_,KK,_⟩:=id hn;refine h _ ⟨I.ok,I.os,I.bare,⟨fun b o e n hb hx=>?_,fun b o e n hb hx=>?_,I.base.free,fun b o e hx=>?_,I.base.tups,I.base.frzs,I.base.tbls⟩,⟨_,LE,fun j y v' e1 e2 e3=>?_⟩,fun y c e=>?_,I.free,I.freeC,fun p hp=>?_,U ⟨oL,KK,I.free⟩ hs,by simpa using I.len⟩ ⟨_,hs,.inl rfl⟩
  .exact(hs.2 b (S_ (G_ (w_ e) I.ok.above))).trans (I.base.keep b o e n hb hx)
  .obtain⟨sl,e1⟩:=I.base.slot b o e n hb hx;exact⟨sl,(hs.2 b (S_ (G_ (w_ e) I.ok.above))).trans e1⟩
  .obtain⟨o',e1⟩:=I.base.there b o e hx;exact⟨o',(hs.2 b (S_ (G_ (w_ e) I.ok.above))).trans e1⟩
  .by_cases hj:j=i
   .subst hj;rw[hi]at e1;cases e1;rw[s_ Z]at e2;cases e2;exact⟨u,r,.inl ⟨hk,by simp⟩⟩
   .rw[g_ (Qby hj)]at e2;obtain⟨u',r',q⟩:=hl j y v' e1 e2 e3;refine⟨u',r',?_⟩;rcases q with⟨k,e⟩|⟨k,c,e,z⟩
    .refine .inl ⟨k,?_⟩;have:y≠x:=fun e=>hj (Ii hN e1 (e▸hi));simp[this,e]
    .exact .inr ⟨k,c,e,z.sameBut hs (cne y c e)⟩
  .obtain⟨w',z⟩:=I.cell y c e;exact⟨w',z.sameBut hs (cne y c e)⟩
  .obtain⟨e,n,ne,nf,d⟩:=I.pin p hp;exact⟨(hs.2 p.1 ne).trans e,n,ne,nf,d⟩
 .have hfn:X.fn x=true:=by
   rcases hf with z|z
   .exact z
   .rw[z]at hk;cases hk
  obtain⟨c,hc⟩:=I.ok.has x (.inl hk);obtain⟨w',z⟩:=I.cell x c hc;refine wpAny_storeName_cell I.ok.kind hk hc z (fun h' BT hs=>?_);obtain⟨oc,Cl,Id⟩:=id z;refine h { s with heap:=h' } ⟨I.ok,I.os,I.bare,⟨fun b o e n hb hx=>?_,fun b o e n hb hx=>?_,I.base.free,fun b o e hx=>?_,I.base.tups,I.base.frzs,I.base.tbls⟩,⟨m,hn.sameBut hs (Qby (cne x c hc)),fun j y v' e1 e2 e3=>?_⟩,fun y c' e=>?_,I.free,I.freeC,fun p hp=>?_,U ⟨oc,Cl,I.freeC x c hc⟩ hs,by simpa using I.len⟩ ⟨c,hs,.inr hc⟩
  .exact(hs.2 b (S_ (G_ (w_ e) (I.ok.cab x c hfn hc)))).trans (I.base.keep b o e n hb hx)
  .obtain⟨sl,e1⟩:=I.base.slot b o e n hb hx;exact⟨sl,(hs.2 b (S_ (G_ (w_ e) (I.ok.cab x c hfn hc)))).trans e1⟩
  .obtain⟨o',e1⟩:=I.base.there b o e hx;exact⟨o',(hs.2 b (S_ (G_ (w_ e) (I.ok.cab x c hfn hc)))).trans e1⟩
  .by_cases hj:j=i
   .subst hj;rw[hi]at e1;cases e1;rw[s_ Z]at e2;cases e2;exact⟨u,r,.inr ⟨.inl hk,c,hc,BT⟩⟩
   .rw[g_ (Qby hj)]at e2;obtain⟨u',r',q⟩:=hl j y v' e1 e2 e3;refine⟨u',r',?_⟩;rcases q with q|⟨k,c',e,z'⟩
    .exact .inl q
    .refine .inr ⟨k,c',e,z'.sameBut hs ?_⟩
     rintro rfl
     exact hj (Ii hN e1 (I.ok.inj _ _ _ e hc▸hi))
  .by_cases hcc:c'=c
   .subst hcc;exact⟨_,BT⟩
   .obtain⟨w2,z2⟩:=I.cell y c' e;exact⟨w2,z2.sameBut hs hcc⟩
  .obtain⟨e,n,ne,nf,d⟩:=I.pin p hp;refine⟨(hs.2 p.1 ?_).trans e,n,ne,nf,d⟩;intro q;rw[q,Cl]at e;have q':oc=p.2:=J_ e;exact d w' (by rw[<-q'];exact Id)
theorem IQ{M:Qfs}{A:Qag}{E:a_->c_->Prop}{i:Nat}{x:Str}{v:V}{u:a_}{Q:Unit->c_->Prop}(I:Inv X pz σ H s)(hN:X.N.Nodup)(hi:X.N[i]? = some x)(hx:kF X.env.scope x)(r:bH v u)(h:∀s',Inv X pz (σ.set i (some v)) H s'->Q () s')(hf:X.fn x=true\/X.env.scope.names.lookup x=some .local:=by first|exact .inl rfl|exact .inr rfl|assumption):x_ M A (storeName X.env x u) Q E s:=Jt I hN hi hx r (fun s' I' _=>h s' I') hf
theorem Inv.call'{s':c_}{ch:List Addr}(I:Inv X pz σ H s)(ho:s'.os=s.os)(u:Un (dh X.stack) ch H H' s.heap s'.heap)(hok:HOk X.prog X.w H' s'.heap)(hg:Qcy s'.gens)(U:∀b∈ch,(b∈X.ex\/X.s₀.heap.objs.size<=b)/\b≠X.env.locals/\(∀x c,X.env.cells.lookup x=some c->c≠b)/\∀p∈X.pn++pz,p.1≠b):Inv X pz σ H' s':=by obtain⟨h',g',d',t',o'⟩:=s';have e:o'=s.os:=ho;subst e;exact I.call (g':=g') (t':=t') (d':=d') u hok hg U
end
abbrev XK:=a_->Option Addr->Hp->Prop
abbrev St:=List (Option V)
abbrev VK:=V->Hp->Prop
abbrev TE:=St->Hp->VK->Prop
abbrev TT:=St->Hp->(Bool->Hp->Prop)->Prop
abbrev TA:=St->Hp->(List V->Hp->Prop)->Prop
structure Ends where
 nx:St->Hp->Prop
 rt:VK
 bk:St->Hp->Prop:=fun _ _=>False
 ct:St->Hp->Prop:=fun _ _=>False
abbrev TS:=Ends->St->Hp->Prop
def EP(X:Cx)(pz:List (Addr×Obj))(σ:St)(Q:VK)(u:a_)(s':c_):Prop:=∃v H',Inv X pz σ H' s'/\bH v u/\Q v H'
def TP(X:Cx)(pz:List (Addr×Obj))(σ:St)(Q:Bool->Hp->Prop)(b:Bool)(s':c_):Prop:=∃H',Inv X pz σ H' s'/\Q b H'
def AP(X:Cx)(pz:List (Addr×Obj))(σ:St)(Q:List V->Hp->Prop)(us:List a_)(s':c_):Prop:=∃vs H',Inv X pz σ H' s'/\aP vs us/\Q vs H'
def SP(X:Cx)(pz:List (Addr×Obj))(D:Ends)(f:Flow)(s':c_):Prop:=match f with
|.next=>∃σ' H',Inv X pz σ' H' s'/\D.nx σ' H'
|.brk=>∃σ' H',Inv X pz σ' H' s'/\D.bk σ' H'
|.cont=>∃σ' H',Inv X pz σ' H' s'/\D.ct σ' H'
|.ret u=>∃v σ' H',Inv X pz σ' H' s'/\bH v u/\D.rt v H'
def PE(X:Cx)(e:Expr)(t:TE):Prop:=∀(pz:List (Addr×Obj))(s:c_)(σ:St)(H:Hp)(Q:VK),Inv X pz σ H s->t σ H Q->x_ (E_ X.prog X.w) X.A (eval e X.env) (EP X pz σ Q) X.xe s
def PT(X:Cx)(e:Expr)(t:TT):Prop:=∀(pz:List (Addr×Obj))(s:c_)(σ:St)(H:Hp)(Q:Bool->Hp->Prop),Inv X pz σ H s->t σ H Q->x_ (E_ X.prog X.w) X.A (isTrue e X.env (eval e X.env)) (TP X pz σ Q) X.xe s
def PW(X:Cx)(e:Expr)(t:TT):Prop:=∀(whole:Sem a_)(pz:List (Addr×Obj))(s:c_)(σ:St)(H:Hp)(Q:Bool->Hp->Prop),Inv X pz σ H s->t σ H Q->x_ (E_ X.prog X.w) X.A (isTrue e X.env whole) (TP X pz σ Q) X.xe s
theorem PW.pt{X:Cx}{e:Expr}{t:TT}(h:PW X e t):PT X e t:=h _
def PA(X:Cx)(es:List Expr)(t:TA):Prop:=∀(pos:Pos)(pz:List (Addr×Obj))(s:c_)(σ:St)(H:Hp)(Q:List V->Hp->Prop),Inv X pz σ H s->t σ H Q->x_ (E_ X.prog X.w) X.A (spliced (backTo pos (h_ es X.env))) (AP X pz σ Q) X.xe s
def PS(X:Cx)(st:Stmt)(t:TS):Prop:=∀(pz:List (Addr×Obj))(s:c_)(σ:St)(H:Hp)(D:Ends),Inv X pz σ H s->t D σ H->x_ (E_ X.prog X.w) X.A (exec st X.env) (SP X pz D) X.xe s
def eD(X:Cx)(st:List Stmt)(t:TS):Prop:=∀(pz:List (Addr×Obj))(s:c_)(σ:St)(H:Hp)(D:Ends),Inv X pz σ H s->t D σ H->x_ (E_ X.prog X.w) X.A (execs st X.env) (SP X pz D) X.xe s
theorem bR{α:Type}{t:Sem α}{Q Q':α->c_->Prop}{M:Qfs}{A:Qag}{E:a_->c_->Prop}{s:c_}(h:x_ M A t Q E s)(hQ:∀a s,Q a s->Q' a s):x_ M A t Q' E s:=Qan h hQ fun _ _ x=>x
variable{b:Expr}{ta tb:TE}{pos:Pos}
section
def lU(i:Nat):TE:=fun σ H Q=>∃v,σ[i]? = some (some v)/\Q v H
def tC(v:V):TE:=fun _ H Q=>Q v H
theorem jR{i:Nat}{x:Str}{pos:Pos}(hN:X.N[i]? = some x)(hv:iY X.env.scope x)(hd:(x==("__debug__" : Str))=false:=by decide)(U:(x==("__classdict__" : Str))=false:=by decide):PE X (.Name x pos) (lU i):=by
 intro pz s σ H Q I h;obtain⟨v,e,h⟩:=h;obtain⟨m,hn,hl⟩:=I.loc;obtain⟨u,r,l⟩:=hl i x v hN e hv;have fin:EP X pz σ Q u s:=⟨v,H,I,r,h⟩
 rcases l with⟨hk,hm⟩|⟨hk,c,hc,hcell⟩
 .exact Qft (wpAny_loadName_local I.ok.kind hk hn hm fin) hd
 .rcases hk with hk|hk
  .exact Qft (wpAny_loadName_cell I.ok.kind hk hc hcell fin) hd
  .exact Qft (wpAny_loadName_free I.ok.kind hk hc hcell fin U) hd
theorem MO{i j pos}:PE X (.Constant (.int i) j pos) (tC (.int i)):=fun _ _ _ H _ I h=>wpAny_Constant_int ⟨.int i,H,I.tok _,⟨_,rfl⟩,h⟩
theorem VP{b j pos}:PE X (.Constant (.bool b) j pos) (tC (.bl b)):=fun _ _ _ H _ I h=>Constant_bool ⟨.bl b,H,I,rfl,h⟩
theorem MQ{j pos}:PE X (.Constant .none j pos) (tC .non):=fun _ _ _ H _ I h=>Constant_none ⟨.non,H,I,rfl,h⟩
theorem FF{x j pos}:PE X (.Constant (.str x) j pos) (tC (.str x)):=fun _ _ _ H _ I h=>Calls.Constant_str ⟨.str x,H,I.tok _,⟨_,rfl⟩,h⟩
def Gl(X:Cx)(x:Str):Prop:=X.env.kindOf x=some .globalImplicit
theorem j9{E:a_->c_->Prop}{pz:List (Addr×Obj)}{s:c_}{σ:St}{H:Hp}{x:Str}{u:a_}{pos:Pos}{Q:a_->c_->Prop}(I:Inv X pz σ H s)(hg:Gl X x)(hm:X.mg x=some u)(h:Q u s)(hd:(x==("__debug__" : Str))=false:=by decide):x_ (E_ X.prog X.w) X.A (eval (.Name x pos) X.env) Q E s:=Qdb I.ok.kind hg (Calls.loadGlobal_global (by rw[I.ok.glob];exact I.mod.glob.keeps I.bk) hm h) hd
theorem qO{E:a_->c_->Prop}{pz:List (Addr×Obj)}{s:c_}{σ:St}{H:Hp}{x:Str}{u:a_}{pos:Pos}{Q:a_->c_->Prop}(I:Inv X pz σ H s)(hg:Gl X x)(hm:X.mg x=none)(hv:Qb4 x=some u)(h:Q u s)(hn:x≠"__name__" := by decide)(hd:(x==("__debug__" : Str))=false:=by decide):x_ (E_ X.prog X.w) X.A (eval (.Name x pos) X.env) Q E s:=by obtain⟨mb,h1,h2⟩:=I.mod.blt;exact Qdb I.ok.kind hg (Calls.loadGlobal_builtin (by rw[I.ok.glob];exact I.mod.glob.keeps I.bk) hm (by rw[I.ok.blt];exact h1.keeps I.bk) ((h2 x hn).trans hv) h) hd
theorem Be{x:Str}{v:V}{u:a_}{pos:Pos}(hg:Gl X x)(hm:X.mg x=some u)(r:bH v u)(hd:(x==("__debug__" : Str))=false:=by decide):PE X (.Name x pos) (tC v):=fun _ _ _ H _ I h=>j9 I hg hm ⟨v,H,I,r,h⟩ hd
theorem Qc{x:Str}{v:V}{u:a_}{pos:Pos}(hg:Gl X x)(hm:X.mg x=none)(hv:Qb4 x=some u)(r:bH v u)(hn:x≠"__name__" := by decide)(hd:(x==("__debug__" : Str))=false:=by decide):PE X (.Name x pos) (tC v):=fun _ _ _ H _ I h=>qO I hg hm hv ⟨v,H,I,r,h⟩ hn hd
variable{a:Expr}
def tB(t:TE):TT:=fun σ H Q=>t σ H fun x H1=>∃c,x=.bl c/\Q c H1
variable{tA tB':TT}{rest:List Expr}
def En(t u:TT):TT:=fun σ H Q=>t σ H fun c H1=>if c=true then u σ H1 Q else Q false H1
def WI(t u:TT):TT:=fun σ H Q=>t σ H fun c H1=>if c=true then Q true H1 else u σ H1 Q
def Ee(t:TT):TT:=fun σ H Q=>t σ H fun c H1=>Q (! c) H1
theorem PR(ha:PT X a tA):PW X (.BoolOp .And [a] pos) tA:=by intro wh pz s σ H Q I h;refine isTrue_and (bR (ha pz s σ H Q I h) fun c s1 e=>?_);cases c with
|true=>exact isTrue_and_nil e
|false=>exact e
theorem Op(ha:PT X a tA):PW X (.BoolOp .Or [a] pos) tA:=by intro wh pz s σ H Q I h;refine isTrue_or (bR (ha pz s σ H Q I h) fun c s1 e=>?_);cases c with
|false=>exact isTrue_or_nil e
|true=>exact e
theorem Oo(ha:PT X a tA)(hb:PW X (.BoolOp .And (b::rest) pos) tB'):PW X (.BoolOp .And (a::b::rest) pos) (En tA tB'):=by intro wh pz s σ H Q I h;refine isTrue_and (bR (ha pz s σ H _ I h) fun c s1 ⟨H1,I1,q1⟩=>?_);cases c with
|true=>exact hb wh pz s1 σ H1 Q I1 q1
|false=>exact⟨H1,I1,q1⟩
theorem VV(ha:PT X a tA)(hb:PW X (.BoolOp .Or (b::rest) pos) tB'):PW X (.BoolOp .Or (a::b::rest) pos) (WI tA tB'):=by intro wh pz s σ H Q I h;refine isTrue_or (bR (ha pz s σ H _ I h) fun c s1 ⟨H1,I1,q1⟩=>?_);cases c with
|true=>exact⟨H1,I1,q1⟩
|false=>exact hb wh pz s1 σ H1 Q I1 q1
theorem M2(ha:PT X a tA):PT X (.UnaryOp .Not a pos) (Ee tA):=by intro pz s σ H Q I h;exact isTrue_not (ha pz s σ H (fun c H1=>Q (! c) H1) I h)
def My(ta tb:TE):TE:=fun σ H Q=>ta σ H fun x H1=>∃c,x=.bl c/\if c=true then tb σ H1 Q else Q (.bl false) H1
def Ed(ta tb:TE):TE:=fun σ H Q=>ta σ H fun x H1=>∃c,x=.bl c/\if c=true then Q (.bl true) H1 else tb σ H1 Q
def MB(ta:TE):TE:=fun σ H Q=>ta σ H fun x H1=>∃c,x=.bl c/\Q (.bl (! c)) H1
theorem MS{op}{t:TE}(h:PE X a t):PE X (.BoolOp op [a] pos) t:=fun pz s σ H Q I hw=>BoolOp_one (h pz s σ H Q I hw)
theorem ML(ha:PE X a ta)(hb:PE X (.BoolOp .And (b::rest) pos) tb):PE X (.BoolOp .And (a::b::rest) pos) (My ta tb):=by intro pz s σ H Q I h;refine BoolOp_and (bR (ha pz s σ H _ I h) fun v s1 ⟨x,H1,I1,r1,q1⟩=>?_);obtain⟨c,rfl,q1⟩:=q1;cases r1;refine Qbq ?_;cases c with
|true=>exact hb pz s1 σ H1 Q I1 q1
|false=>exact⟨.bl false,H1,I1,rfl,q1⟩
theorem VS(ha:PE X a ta)(hb:PE X (.BoolOp .Or (b::rest) pos) tb):PE X (.BoolOp .Or (a::b::rest) pos) (Ed ta tb):=by intro pz s σ H Q I h;refine BoolOp_or (bR (ha pz s σ H _ I h) fun v s1 ⟨x,H1,I1,r1,q1⟩=>?_);obtain⟨c,rfl,q1⟩:=q1;cases r1;refine Qbq ?_;cases c with
|false=>exact hb pz s1 σ H1 Q I1 q1
|true=>exact⟨.bl true,H1,I1,rfl,q1⟩
theorem MR(ha:PE X a ta):PE X (.UnaryOp .Not a pos) (MB ta):=by intro pz s σ H Q I h;refine UnaryOp_ (bR (ha pz s σ H _ I h) fun v s1 ⟨x,H1,I1,r1,q1⟩=>?_);obtain⟨c,rfl,q1⟩:=q1;cases r1;exact not_of (Qbq ⟨.bl (! c),H1,I1,rfl,q1⟩)
def WK(t:TT)(ta tb:TE):TE:=fun σ H Q=>t σ H fun c H1=>if c=true then ta σ H1 Q else tb σ H1 Q
theorem QP{c:Expr}(hc:PT X c tA)(ha:PE X a ta)(hb:PE X b tb):PE X (.IfExp c a b pos) (WK tA ta tb):=by intro pz s σ H Q I h;refine wpAny_IfExp (bR (hc pz s σ H _ I h) fun d s1 ⟨H1,I1,q1⟩=>?_);cases d with
|true=>exact ha pz s1 σ H1 Q I1 q1
|false=>exact hb pz s1 σ H1 Q I1 q1
end
def cX(K:W.Frag)(H:Hp)(a:Addr)(xs:List V):Prop:=Rd H a (.lst xs) \/∃(o:Obj)(its:Array a_)(n:Nat),K.lookup a=some o/\o.cls=.type "list"/\o.dict=none/\o.data=.seq its n/\its.size<=sizeLine/\aP xs its.toList
def dG(K:W.Frag)(H:Hp)(a:Addr)(xs:List V):Prop:=Rd H a (.tup xs) \/∃(o:Obj)(its:Array a_)(n:Nat),K.lookup a=some o/\o.cls=.type "tuple"/\o.data=.seq its n/\its.size<=sizeLine/\aP xs its.toList
def EN:a_->Option V
|.none=>some .non
|.bool b=>some (.bl b)
|.int i _=>some (.int i)
|.str x _=>some (.str x)
|.bytes b _=>some (.byt b)
|.float b _=>some (.flt b)
|.ref a=>some (.ref a)
|.type n=>some (.ty n)
|_=>none
theorem bH.abs{x:V}{u:a_}(r:bH x u):EN u=some x:=by cases x with
|non=>cases r;rfl
|bl _=>cases r;rfl
|int _=>obtain⟨t,rfl⟩:=r;rfl
|str _=>obtain⟨t,rfl⟩:=r;rfl
|byt _=>obtain⟨t,rfl⟩:=r;rfl
|flt _=>obtain⟨t,rfl⟩:=r;rfl
|ref _=>cases r;rfl
|ty _=>cases r;rfl
theorem bH.inj{x y:V}{u:a_}(r:bH x u)(q:bH y u):x=y:=J_ (r.abs.symm.trans q.abs)
theorem aP.inj{xs ys:List V}{us:List a_}(h:aP xs us)(h':aP ys us):xs=ys:=by induction h generalizing ys with
|nil=>cases h';rfl
|cons r t ih=>cases h' with
 |cons r' t'=>rw[r.inj r',ih t']
variable{σ:St}
section
variable{xs ys:List V}
theorem cX.of{K:W.Frag}(h:H a=some (.lst xs)):cX K H a xs:=.inl (.inl h)
theorem Inv.list(I:Inv X pz σ H s)(h:cX X.K H a xs):∃its:List a_,aP xs its/\PlainL s.heap a its.toArray/\xs.length<=sizeLine:=by
 rcases h with h|⟨o,its,n,hk,hc,hd,hs,hz,r⟩
 .obtain⟨z,its,n,r,e⟩:=h.ok I.hok;exact⟨its,r,⟨_,n,e,rfl,rfl,rfl⟩,z⟩
 .refine⟨its.toList,r,⟨o,n,I.kIn a o hk,hc,hd,by simpa using hs⟩,?_⟩;have e:=r.length;simp only[Qbz]at e;omega
theorem Inv.tuple(I:Inv X pz σ H s)(h:dG X.K H a xs):∃its:List a_,aP xs its/\Qfd s.heap a its.toArray/\xs.length<=sizeLine:=by
 rcases h with h|⟨o,its,n,hk,hc,hs,hz,r⟩
 .obtain⟨z,its,r,p,_⟩:=h.ok I.hok;exact⟨its,r,p,z⟩
 .refine⟨its.toList,r,⟨o,I.kIn a o hk,hc,n,by simpa using hs⟩,?_⟩;have e:=r.length;simp only[Qbz]at e;omega
theorem Inv.list_inj(I:Inv X pz σ H s)(h:cX X.K H a xs)(h':cX X.K H a ys):xs=ys:=by
 obtain⟨its,r,⟨o,n,e,_,_,d⟩,_⟩:=I.list h;obtain⟨its',r',⟨o',n',e',_,_,d'⟩,_⟩:=I.list h';rw[e]at e';cases e';rw[d]at d';injection d' with d1 _
 have:its=its':=by simpa using congrArg Qf4 d1
 subst this;exact r.inj r'
theorem Inv.tuple_inj(I:Inv X pz σ H s)(h:dG X.K H a xs)(h':dG X.K H a ys):xs=ys:=by
 obtain⟨its,r,⟨o,e,_,n,d⟩,_⟩:=I.tuple h;obtain⟨its',r',⟨o',e',_,n',d'⟩,_⟩:=I.tuple h';rw[e]at e';cases e';rw[d]at d';injection d' with d1 _
 have:its=its':=by simpa using congrArg Qf4 d1
 subst this;exact r.inj r'
end
abbrev Cx.wish(X:Cx)(E:a_->c_->Prop):Cx:={ X with xe:=E }
abbrev Cx.nox(X:Cx):Cx:=X.wish fun _ _=>False
theorem Cx.Ok.wish{X:Cx}(ok:X.Ok)(E:a_->c_->Prop):(X.wish E).Ok:=⟨ok.mod,ok.kind,ok.glob,ok.blt,ok.above,ok.inj,ok.has,ok.cab,ok.hd,ok.frames,ok.stk,ok.exf,ok.bs,ok.bsz,ok.noex,ok.exfs,ok.funs,ok.frf⟩
theorem Cx.Ok.unwish{X:Cx}{E:a_->c_->Prop}(ok:(X.wish E).Ok):X.Ok:=⟨ok.mod,ok.kind,ok.glob,ok.blt,ok.above,ok.inj,ok.has,ok.cab,ok.hd,ok.frames,ok.stk,ok.exf,ok.bs,ok.bsz,ok.noex,ok.exfs,ok.funs,ok.frf⟩
variable{E:a_->c_->Prop}
theorem Inv.wish(I:Inv X pz σ H s)(E:a_->c_->Prop):Inv (X.wish E) pz σ H s:=⟨I.ok.wish E,I.os,I.bare,I.base,I.loc,I.cell,I.free,I.freeC,I.pin,I.hok,I.len⟩
theorem Inv.unwish(I:Inv (X.wish E) pz σ H s):Inv X pz σ H s:=⟨I.ok.unwish,I.os,I.bare,I.base,I.loc,I.cell,I.free,I.freeC,I.pin,I.hok,I.len⟩
theorem SP.unwish{D:Ends}{f:Flow}{s':c_}(h:SP (X.wish E) pz D f s'):SP X pz D f s':=by cases f with
|next=>obtain⟨σ',H',I,q⟩:=h;exact⟨σ',H',I.unwish,q⟩
|brk=>obtain⟨σ',H',I,q⟩:=h;exact⟨σ',H',I.unwish,q⟩
|cont=>obtain⟨σ',H',I,q⟩:=h;exact⟨σ',H',I.unwish,q⟩
|ret u=>obtain⟨v,σ',H',I,r,q⟩:=h;exact⟨v,σ',H',I.unwish,r,q⟩
theorem eD.nox{st:List Stmt}{t:TS}(h:eD X.nox st t):eD X st t:=fun pz s σ H D I hw=>Qan (h pz s σ H D (I.wish _) hw) (fun _ _ q=>q.unwish) fun _ _ z=>Qai z
variable{e:Expr}{te:TE}
section
variable{st:Stmt}{rest:List Stmt}{t u:TS}
def MA:TS:=fun D σ H=>D.nx σ H
def sH(t u:TS):TS:=fun D σ H=>t { D with nx:=u D } σ H
theorem HJ:eD X [] MA:=fun _ _ σ H _ I h=>QbM ⟨σ,H,I,h⟩
theorem BJ(h1:PS X st t)(h2:eD X rest u):eD X (st::rest) (sH t u):=by intro pz s σ H D I h;refine wpAny_execs_cons (bR (h1 pz s σ H { D with nx:=u D } I h) fun f s1 q=>?_);cases f with
|next=>obtain⟨σ',H',I',q⟩:=q;exact h2 pz s1 σ' H' D I' q
|ret v=>exact q
|brk=>exact q
|cont=>exact q
theorem PN(h1:PS X st t):eD X [st] t:=by intro pz s σ H D I h;refine wpAny_execs_cons (bR (h1 pz s σ H D I h) fun f s1 q=>?_);cases f with
|next=>exact QbM q
|ret v=>exact q
|brk=>exact q
|cont=>exact q
theorem Inv.quiet{pz:List (Addr×Obj)}{σ:St}{H:Hp}{s:c_}(I:Inv X pz σ H s):interactive X.env=false:=by simp[interactive,I.ok.kind]
def Fk(te:TE):TS:=fun D σ H=>te σ H fun _ H1=>D.nx σ H1
theorem vA(he:PE X e te)(hs:Qb5 e none pos.line X.env=pure false:=by rfl):PS X (.Expr e pos) (Fk te):=by intro pz s σ H D I h;exact wpAny_Expr_any (bR (he pz s σ H _ I h) fun v s1 ⟨x,H1,I1,r1,q1⟩=>⟨σ,H1,I1,q1⟩) I.quiet hs
def Ec(te:TE):TS:=fun D σ H=>te σ H D.rt
theorem AV(he:PE X e te):PS X (.Return (some e) pos) (Ec te):=by intro pz s σ H D I h;exact wpAny_Return_some (bR (he pz s σ H _ I h) fun v s1 ⟨x,H1,I1,r1,q1⟩=>⟨x,σ,H1,I1,r1,q1⟩)
def Ei(c:TT)(t u:TS):TS:=fun D σ H=>c σ H fun b H1=>if b=true then t D σ H1 else u D σ H1
theorem VU{c:Expr}{a b:List Stmt}{tc:TT}(hc:PT X c tc)(ha:eD X a t)(hb:eD X b u):PS X (.If c a b pos) (Ei tc t u):=by intro pz s σ H D I h;refine wpAny_If (bR (hc pz s σ H _ I h) fun d s1 ⟨H1,I1,q1⟩=>?_);cases d with
|true=>exact ha pz s1 σ H1 D I1 q1
|false=>exact hb pz s1 σ H1 D I1 q1
def F5:TS:=fun _ _ _=>False
theorem Sb:PS X st F5:=fun _ _ _ _ _ _ h=>h.elim
theorem Td{sts:List Stmt}:eD X sts F5:=fun _ _ _ _ _ _ h=>h.elim
end
abbrev TG:=V->St->Hp->(St->Hp->Prop)->Prop
abbrev li:=List V->St->Hp->(St->Hp->Prop)->Prop
def PG(X:Cx)(target:Expr)(t:TG):Prop:=∀(pz:List (Addr×Obj))(s:c_)(σ:St)(H:Hp)(v:V)(u:a_)(Q:St->Hp->Prop),Inv X pz σ H s->bH v u->t v σ H Q ->x_ (E_ X.prog X.w) X.A (Qdc target X.env u) (fun _ s'=>∃σ' H',Inv X pz σ' H' s'/\Q σ' H') X.xe s
def kE(X:Cx)(ts:List Expr)(t:li):Prop:=∀(pz:List (Addr×Obj))(s:c_)(σ:St)(H:Hp)(vs:List V)(us:List a_)(Q:St->Hp->Prop),Inv X pz σ H s->aP vs us->t vs σ H Q ->x_ (E_ X.prog X.w) X.A (assignInOrder ((Qa0 ts X.env).map (·.2)) us) (fun _ s'=>∃σ' H',Inv X pz σ' H' s'/\Q σ' H') X.xe s
abbrev mh:=V->V->V->Hp->(Hp->Prop)->Prop
def ir(X:Cx)(t:mh):Prop:=∀(pz:List (Addr×Obj))(s:c_)(σ:St)(H:Hp)(o i v:V)(ov iv u:a_)(Q:Hp->Prop),Inv X pz σ H s->bH o ov->bH i iv->bH v u->t o i v H Q ->x_ (E_ X.prog X.w) X.A (setItem ov iv u) (fun _ s'=>∃H',Inv X pz σ H' s'/\Q H') X.xe s
def E5(i:Nat):TG:=fun v σ H Q=>Q (σ.set i (some v)) H
theorem Qi{i:Nat}{x:Str}(hN:X.N.Nodup)(hi:X.N[i]? = some x)(hx:kF X.env.scope x)(hf:X.fn x=true\/X.env.scope.names.lookup x=some .local:=by first|exact .inl rfl|exact .inr rfl|assumption):PG X (.Name x pos) (E5 i):=by intro pz s σ H v u Q I r h;exact QeI (IQ I hN hi hx r (fun s' I'=>⟨_,H,I',h⟩) hf)
def EG:li:=fun vs σ H Q=>vs=[]/\Q σ H
def Wc(t:TG)(u:li):li:=fun vs σ H Q=>∃v r,vs=v::r/\t v σ H fun σ' H'=>u r σ' H' Q
theorem Qj:kE X [] EG:=by intro pz s σ H vs us Q I r h;obtain⟨e,h⟩:=h;subst e;cases r;exact assignInOrder_nil ⟨σ,H,I,h⟩
theorem R8{e:Expr}{es:List Expr}{t:TG}{u:li}(h1:PG X e t)(h2:kE X es u)(hs:(Qa0 (e::es) X.env).map (·.2)=Qdc e X.env::(Qa0 es X.env).map (·.2):=by rfl):kE X (e::es) (Wc t u):=by intro pz s σ H vs us Q I r h;obtain⟨v,vr,e1,h⟩:=h;subst e1;cases r with
|cons r rr=>rw[hs];refine assignInOrder_cons (bR (h1 pz s σ H _ _ _ I r h) fun _ s1 ⟨σ1,H1,I1,q1⟩=>?_);exact h2 pz s1 σ1 H1 _ _ Q I1 rr q1
def EE(K:W.Frag)(n:Nat)(t:li):TG:=fun v σ H Q=>∃a xs,v=.ref a/\dG K H a xs/\xs.length=n/\t xs σ H Q
theorem MV{es:List Expr}{k:Nat}{t:li}{n:Nat}(hc:X.calm=true)(h:kE X es t)(hn:(Qa0 es X.env).length=n:=by rfl)(U:(Qa0 es X.env).findIdx? (·.1)=none:=by rfl):PG X (.Tuple es k pos) (EE X.K n t):=by intro pz s σ H v u Q I r hw;obtain⟨a,xs,e1,hq,hl,hw⟩:=hw;subst e1;cases r;obtain⟨its,rv,ht,hz⟩:=I.tuple hq;refine assign_Tuple_tuple (I.ok.hd hc) ht (by simp[hn,<-hl,rv.length]) U fun h' hx=>?_;have I1:Inv X pz σ H { s with heap:=h' }:=I.kept (t':=s.toks) fun b o e=>hx b o (S_ (w_ e)) e;exact h pz _ σ H xs _ Q I1 (by simpa using rv) hw
def EF(to ti:TE)(t:mh):TG:=fun v σ H Q=>to σ H fun o H1=>ti σ H1 fun i H2=>t o i v H2 fun H3=>Q σ H3
theorem MU{o i:Expr}{to ti:TE}{t:mh}(ho:PE X o to)(hi:PE X i ti)(hs:ir X t)(ha:∀v,Qdc (.Subscript o i pos) X.env v=(do
   let ov <-Qcz [v] (eval o X.env);let iv <-Qcz [v,ov] (eval i X.env)
   QdJ pos
   Qcz [v,ov,iv] (setItem ov iv v)
   release [v,ov,iv] []):=by intro _;rfl):PG X (.Subscript o i pos) (EF to ti t):=by intro pz s σ H v u Q I r h;rw[ha];refine b_ (Qa8 (bR (ho pz s σ H _ I h) fun ov s1 ⟨x,H1,I1,r1,q1⟩=>?_));refine b_ (Qa8 (bR (hi pz s1 σ H1 _ I1 q1) fun iv s2 ⟨y,H2,I2,r2,q2⟩=>?_));refine b_ (Qce (b_ (Qa8 (bR (hs pz s2 σ H2 x y v ov iv u _ I2 r1 r2 r q2) fun _ s3 ⟨H3,I3,q3⟩=>?_))));exact wpAny_release ⟨σ,H3,I3,q3⟩
def sK(te:TE)(g:TG):TS:=fun D σ H=>te σ H fun x H1=>g x σ H1 D.nx
theorem M0{tg e:Expr}{te:TE}{g:TG}(he:PE X e te)(hg:PG X tg g)(hs:swapsWithSole [tg] e pos.line X.env=pure false:=by rfl)(hw:swappedStores [tg] e X.env=pure none:=by rfl)(h1:(Qa0 [tg] X.env).map (·.2)=[Qdc tg X.env]:=by rfl):PS X (.Assign [tg] e pos) (sK te g):=by intro pz s σ H D I h;refine wpAny_Assign_stores (bR (he pz s σ H _ I h) fun v s1 ⟨x,H1,I1,r1,q1⟩=>?_) hs hw;rw[h1];exact bR (hg pz s1 σ H1 x v _ I1 r1 q1) fun _ s2 q=>q
theorem FH{i:Nat}{x:Str}{e:Expr}{te:TE}{pos':Pos}(hN:X.N.Nodup)(hi:X.N[i]? = some x)(hx:kF X.env.scope x)(he:PE X e te)(hs:Qb5 e (some (.Name x pos')) pos.line X.env=pure false:=by rfl)(hf:X.fn x=true\/X.env.scope.names.lookup x=some .local:=by first|exact .inl rfl|exact .inr rfl|assumption):PS X (.Assign [.Name x pos'] e pos) (sK te (E5 i)):=by intro pz s σ H D I h;refine wpAny_Assign_Name (bR (he pz s σ H _ I h) fun v s1 ⟨y,H1,I1,r1,q1⟩=>?_) hs;exact IQ I1 hN hi hx r1 (fun s2 I2=>⟨_,H1,I2,q1⟩) hf
def NE(c:TT)(tb:TS):TS:=fun D σ H=>∃W:Nat->St->Hp->Prop,(∃m,W m σ H)/\∀m σ H,W m σ H ->c σ H fun b H1=>if b=true then ∃N:St->Hp->Prop,(∀σ' H',N σ' H'->∃m',m'<m/\W m' σ' H')/\tb { D with nx:=N,ct:=N,bk:=D.nx } σ H1 else D.nx σ H1
theorem Sc{c:Expr}{body:List Stmt}{tc:TT}{tb:TS}(hp:Qc8 (E_ X.prog X.w) X.A X.env X.xe)(hc:PT X c tc)(hb:eD X body tb):PS X (.While c body [] pos) (NE tc tb):=by
 intro pz s σ H D I h;obtain⟨W,⟨m0,w0⟩,turn⟩:=h;refine wpAny_While (codeAny_whileLoop (fun n s'=>∃σ' H',Inv X pz σ' H' s'/\W n σ' H') ?_ m0 ⟨σ,H,I,w0⟩)
 rintro n s1 ⟨σ1,H1,I1,w1⟩
 refine Qbn hp (bR (hc pz s1 σ1 H1 _ I1 (turn n σ1 H1 w1)) fun b s2 ⟨H2,I2,q2⟩=>?_);cases b with
|true=>obtain⟨N,hN,q2⟩:=q2;rw[if_pos rfl];refine Qbn hp (bR (hb pz s2 σ1 H2 _ I2 q2) fun f s3 q3=>?_);cases f with
 |next=>obtain⟨σ3,H3,I3,n3⟩:=q3;obtain⟨m',hm,w3⟩:=hN σ3 H3 n3;exact⟨m',hm,σ3,H3,I3,w3⟩
 |cont=>obtain⟨σ3,H3,I3,n3⟩:=q3;obtain⟨m',hm,w3⟩:=hN σ3 H3 n3;exact⟨m',hm,σ3,H3,I3,w3⟩
 |brk=>exact q3
 |ret v=>exact q3
|false=>rw[if_neg d_];exact QbM ⟨σ1,H2,I2,q2⟩
structure It where
 go:Nat->Hp->Prop
 yld:Nat->Hp->V->Hp->Prop
 stop:Nat->Hp->Prop
def eY(X:Cx)(pz:List (Addr×Obj))(H:Hp)(b:Addr):Prop:=H b=none/\b≠X.env.locals/\b∉X.fs/\(b∈X.ex\/X.s₀.heap.objs.size<=b)/\(∀x c,X.env.cells.lookup x=some c->c≠b)/\∀p∈X.pn++pz,p.1≠b
theorem Inv.fpOk{X:Cx}{pz:List (Addr×Obj)}{σ:St}{H H':Hp}{s:c_}{b:Addr}(I:Inv X pz σ H s)(hb:s.heap.objs.size<=b)(hn:H' b=none):eY X pz H' b:=by
 refine⟨hn,QbI (G_ I.lt hb),I.nofs hb,.inr (L_ I.sz hb),fun x c e z=>?_,fun p hp z=>?_⟩
 .obtain⟨v,q⟩:=I.cell x c e;exact absurd (G_ q.lt (by rw[z];exact hb)) (QaB _)
 .exact absurd (G_ (w_ (I.pin p hp).1) (by rw[z];exact hb)) (QaB _)
structure Turn(P:H_)(w:Z_)(K:W.Frag)(tg:Expr)(J:It)(fp:List Addr)(it:Addr)(tn:Nat->Heap->Prop):Prop where
 mem:it∈fp
 obj:∀i h,tn i h->∀b∈fp,∃o,h.get? b=some o/\∀v,o.data≠.cell v
 keep:∀i h h',tn i h->(∀b∈fp,∀o,h.get? b=some o->h'.get? b=some o)->tn i h'
 item:∀(X:Cx),X.prog=P->X.w=w->X.K=K->X.calm=true->∀(i:Nat)(pz:List (Addr×Obj))(s:c_)(σ:St)(H:Hp)(E:a_->c_->Prop),Inv X pz σ H s->(∀b∈fp,eY X pz H b)->tn i s.heap->J.go i H ->x_ (E_ P w) X.A (pyNext (.ref it)) (fun r s1=>∃u,r=some u /\x_ (E_ P w) X.A (QcZ tg (.ref it) u) (fun _ s2=>∃x H',Inv X pz σ H' s2/\bH x u/\J.yld i H x H'/\tn (i+1) s2.heap/\∀b∈fp,H' b=none) E s1) E s
 done:∀(X:Cx),X.prog=P->X.w=w->X.K=K->X.calm=true->∀(i:Nat)(pz:List (Addr×Obj))(s:c_)(σ:St)(H:Hp)(E:a_->c_->Prop),Inv X pz σ H s->(∀b∈fp,eY X pz H b)->tn i s.heap->J.stop i H ->x_ (E_ P w) X.A (pyNext (.ref it)) (fun r s1=>r=none/\Inv X pz σ H s1) E s
 self:∀(A:Qag)(i:Nat)(s:c_)(Q:a_->c_->Prop)(E:a_->c_->Prop),tn i s.heap->Q (.ref it) s->x_ (E_ P w) A (pyIter (.ref it)) Q E s
abbrev TI:=St->Hp->(It->Hp->Prop)->Prop
def LP(X:Cx)(pz:List (Addr×Obj))(σ:St)(tg:Expr)(R:It->Hp->Prop)(itv:a_)(s2:c_):Prop:=∃(it:Addr)(fp:List Addr)(tn:Nat->Heap->Prop)(J:It)(H':Hp),itv=.ref it/\Inv X pz σ H' s2/\Turn X.prog X.w X.K tg J fp it tn/\tn 0 s2.heap/\(∀b∈fp,eY X pz H' b)/\R J H'
def PI(X:Cx)(tg iter:Expr)(wi:TI):Prop:=∀(pz:List (Addr×Obj))(s:c_)(σ:St)(H:Hp)(R:It->Hp->Prop),Inv X pz σ H s->wi σ H R ->x_ (E_ X.prog X.w) X.A (eval iter X.env) (fun v s1=>x_ (E_ X.prog X.w) X.A (pyIter v) (LP X pz σ tg R) X.xe s1) X.xe s
theorem uG{M:Qfs}{A:Qag}{E:a_->c_->Prop}{s:c_}{tg:Expr}{it:Addr}{u:a_}{o:Obj}{n:String}{vs:Array a_}{Q:Unit->c_->Prop}(ho:s.heap.get? it=some o)(hc:o.cls=.type n)(hd:o.data=.fields vs)(hn : ["enumerate","zip","dict_itemiterator","dict_reverseitemiterator","odict_iterator","itertools.zip_longest","itertools.pairwise"].contains n=false)(hQ:Q () s):x_ M A (QcZ tg (.ref it) u) Q E s:=by
  unfold QcZ;cases tg <;> first
    |exact n_ hQ
    |(cases u <;> first
        |exact n_ hQ
        | (refine b_ (wpAny_load ho ?_)
           rw[hc,hd];show x_ M A (if (["enumerate","zip","dict_itemiterator","dict_reverseitemiterator","odict_iterator","itertools.zip_longest","itertools.pairwise"].contains n&&vs[0]? == some (Qdt _))=true then _ else _) Q E s;rw[if_neg (by intro h;rw[hn,Qfu]at h;cases h)];exact n_ hQ))
def tR(K:W.Frag)(a:Addr):It:=⟨fun i H=>∃xs x,cX K H a xs/\xs[i]? = some x,fun i H x H'=>H'=H/\∀xs,cX K H a xs->xs[i]? = some x,fun i H=>∃xs,cX K H a xs/\xs.length<=i⟩
def EU(K:W.Frag)(a:Addr):It:=⟨fun i H=>∃xs x,dG K H a xs/\xs[i]? = some x,fun i H x H'=>H'=H/\∀xs,dG K H a xs->xs[i]? = some x,fun i H=>∃xs,dG K H a xs/\xs.length<=i⟩
def Af(lo:Int)(n:Nat):It:=⟨fun i _=>i<n,fun i H x H'=>H'=H/\x=.int (lo+i),fun i _=>n<=i⟩
theorem TU{P:H_}{w:Z_}{K:W.Frag}{tg:Expr}(a it:Addr):Turn P w K tg (tR K a) [it] it (fun i h=>h.IsListIter it a i) where
 mem:=by simp
 obj:=fun i h st b hb=>by
  have e:b=it:=by simpa using hb
  subst e;obtain⟨o,e,c,d⟩:=st;exact⟨o,e,fun v z=>by rw[d]at z;cases z⟩
 keep:=fun i h h' st k=>st.at fun o e=>k it (by simp) o e
 item:=by intro X hP hw hK hc i pz s σ H E I hf st hg;subst hP hw hK;obtain⟨xs,x,hq,hx⟩:=hg;obtain⟨its,rv,p,hz⟩:=I.list hq;obtain⟨u,hu,ru⟩:=rv.get hx;obtain⟨f0,f1,f2,f3,f4,f5⟩:=hf it (by simp);refine wpAny_pyNext_list_item st p.isList (x:=u) (by simpa using hu) fun h' st' sb=>?_;have I1:Inv X pz σ H { s with heap:=h' }:=I.turned (t':=s.toks) (fun b o hb e=>(sb.2 b hb).trans e) f0 f1 f3 f4 f5;obtain⟨o,e,c,d⟩:=id st';exact⟨u,rfl,uG (s:={ s with heap:=h' }) e c d (by decide) ⟨x,H,I1,ru,⟨rfl,fun ys hy=>by rw[I.list_inj hy hq];exact hx⟩,st',fun b hb=>(hf b hb).1⟩⟩
 done:=by intro X hP hw hK hc i pz s σ H E I hf st hg;subst hP hw hK;obtain⟨xs,hq,hx⟩:=hg;obtain⟨its,rv,p,hz⟩:=I.list hq;obtain⟨f0,f1,f2,f3,f4,f5⟩:=hf it (by simp);have hl:=rv.length;exact wpAny_pyNext_list_end (I.ok.hd hc) st p.isList (by simp;omega) fun h' eb=>⟨rfl,I.turned (t':=s.toks) (fun b o hb e=>eb b o hb e) f0 f1 f3 f4 f5⟩
 self:=fun _ _ _ _ _ st h=>wpAny_pyIter_listiter st h
theorem Ub{P:H_}{w:Z_}{K:W.Frag}{tg:Expr}(a it:Addr):Turn P w K tg (EU K a) [it] it (fun i h=>h.IsTupleIter it a i) where
 mem:=by simp
 obj:=fun i h st b hb=>by
  have e:b=it:=by simpa using hb
  subst e;obtain⟨o,e,c,d⟩:=st;exact⟨o,e,fun v z=>by rw[d]at z;cases z⟩
 keep:=fun i h h' st k=>st.at fun o e=>k it (by simp) o e
 item:=by intro X hP hw hK hc i pz s σ H E I hf st hg;subst hP hw hK;obtain⟨xs,x,hq,hx⟩:=hg;obtain⟨its,rv,p,hz⟩:=I.tuple hq;obtain⟨u,hu,ru⟩:=rv.get hx;obtain⟨f0,f1,f2,f3,f4,f5⟩:=hf it (by simp);refine wpAny_pyNext_tuple_item st (show s.heap.IsTuple a its.toArray from p) (x:=u) (by simpa using hu) fun h' st' sb=>?_;have I1:Inv X pz σ H { s with heap:=h' }:=I.turned (t':=s.toks) (fun b o hb e=>(sb.2 b hb).trans e) f0 f1 f3 f4 f5;obtain⟨o,e,c,d⟩:=id st';exact⟨u,rfl,uG (s:={ s with heap:=h' }) e c d (by decide) ⟨x,H,I1,ru,⟨rfl,fun ys hy=>by rw[I.tuple_inj hy hq];exact hx⟩,st',fun b hb=>(hf b hb).1⟩⟩
 done:=by intro X hP hw hK hc i pz s σ H E I hf st hg;subst hP hw hK;obtain⟨xs,hq,hx⟩:=hg;obtain⟨its,rv,p,hz⟩:=I.tuple hq;obtain⟨f0,f1,f2,f3,f4,f5⟩:=hf it (by simp);have hl:=rv.length;exact wpAny_pyNext_tuple_end (I.ok.hd hc) st (show s.heap.IsTuple a its.toArray from p) (by simp;omega) fun h' eb=>⟨rfl,I.turned (t':=s.toks) (fun b o hb e=>eb b o hb e) f0 f1 f3 f4 f5⟩
 self:=fun _ _ _ _ _ st h=>wpAny_pyIter_tupleiter st h
theorem Ua{P:H_}{w:Z_}{K:W.Frag}{tg:Expr}(it:Addr)(lo:Int)(n:Nat):Turn P w K tg (Af lo n) [it] it (fun i h=>IsRangeIter h it (lo+(i:Nat)*1) ((n:Int)-(i:Nat)) 1) where
 mem:=by simp
 obj:=fun i h st b hb=>by
  have e:b=it:=by simpa using hb
  subst e;exact⟨_,st,fun v z=>by have z':Data.fields _=Data.cell v:=z;cases z'⟩
 keep:=fun i h h' st k=>k it (by simp) _ st
 item:=by intro X hP hw hK hc i pz s σ H E I hf st hg;subst hP hw hK;obtain⟨f0,f1,f2,f3,f4,f5⟩:=hf it (by simp);have W:=Walks.range (prog:=X.prog) (w:=X.w) (I.ok.hd hc) it lo 1 n;refine W.item i s _ _ hg st fun v h' tk hv st' kk=>?_;obtain⟨t,rfl⟩:=hv;have I1:Inv X pz σ H { s with heap:=h',toks:=tk }:=I.turned (fun b o hb e=>kk b o (by simpa using hb) e) f0 f1 f3 f4 f5;refine⟨_,rfl,uG (s:={ s with heap:=h',toks:=tk }) (n := "range_iterator") st' rfl rfl (by decide) ⟨.int (lo+i),H,I1,⟨t,?_⟩,⟨rfl,rfl⟩,st',fun b hb=>(hf b hb).1⟩⟩;rw[Int.mul_one]
 done:=by intro X hP hw hK hc i pz s σ H E I hf st hg;subst hP hw hK;obtain⟨f0,f1,f2,f3,f4,f5⟩:=hf it (by simp);exact wpAny_pyNext_range_end (I.ok.hd hc) st (by have:n<=i:=hg;omega) fun h' eb=>⟨rfl,I.turned (t':=s.toks) (fun b o hb e=>eb b o hb e) f0 f1 f3 f4 f5⟩
 self:=fun _ _ _ _ _ st h=>wpAny_pyIter_rangeiter st h
section
variable{tg:Expr}
theorem RF{pz:List (Addr×Obj)}{σ:St}{H:Hp}{s:c_}{R:It->Hp->Prop}{E:a_->c_->Prop}{lo hi:Int}{t u v:Tok}{tk:Nat}(I:Inv X pz σ H s)(h1 : -(2^62)<=lo)(h2:lo<2^62)(h3 : -(2^62)<=hi)(h4:hi<2^62)(q:R (Af lo (hi-lo).toNat) H):x_ (E_ X.prog X.w) X.A (pyIter (.ref s.heap.objs.size)) (LP X pz σ tg R) E { s with heap:=s.heap.push { cls:=.type "range",data:=.fields #[.int lo t,.int hi u,.int 1 v] },toks:=tk }:=by
 refine wpAny_pyIter_range (IsRange.new ..) (small_one h1 h2 h3 h4) ?_;have I1:Inv X pz σ H { s with heap:=s.heap.push { cls:=.type "range",data:=.fields #[.int lo t,.int hi u,.int 1 v] },toks:=tk }:=I.kept fun b o e=>i_ _ e;refine⟨(s.heap.push { cls:=.type "range",data:=.fields #[.int lo t,.int hi u,.int 1 v] }).objs.size,[(s.heap.push { cls:=.type "range",data:=.fields #[.int lo t,.int hi u,.int 1 v] }).objs.size],_,_,H,rfl,I1.kept (t':=tk) fun b o e=>i_ _ e,Ua _ lo (hi-lo).toNat,?_,fun b hb=>?_,q⟩
 .have e1:lo+((0:Nat):Int)*1=lo:=by simp
  have e2:(((hi-lo).toNat:Nat):Int)-((0:Nat):Int)=QdB lo hi 1:=by rw[rangeSize_one];split <;> omega
  show IsRangeIter _ _ (lo+((0:Nat):Int)*1) ((((hi-lo).toNat:Nat):Int)-((0:Nat):Int)) 1;rw[e1,e2];exact B_ _ rfl
 .have e:b=(s.heap.push { cls:=.type "range",data:=.fields #[.int lo t,.int hi u,.int 1 v] }).objs.size:=by simpa using hb
  subst e;exact I1.fpOk (r_ _) (I1.hok.fresh (r_ _))
def We(ta:TA):TI:=fun σ H R=>ta σ H fun vs H1=>∃j:Int,vs=[.int j]/\-(2^62)<=j/\j<2^62/\R (Af 0 j.toNat) H1
theorem Tb{a:Expr}{ta:TA}{p pos:Pos}(hg:Gl X "range")(hm:X.mg "range" = none)(ha:PA X [a] ta)(hs:h_ [a] X.env=[(false,eval a X.env)]:=by rfl):PI X tg (.Call (.Name "range" p) [a] [] pos) (We ta):=by intro pz s σ H R I h;refine Call_ (qO I hg hm boot_range (QbS (bR (ha pos pz s σ H _ I h) fun us s1 ⟨vs,H1,I1,r1,q1⟩=>?_) hs rfl));obtain⟨j,e,q1,q2,q⟩:=q1;subst e;cases r1 with
|cons r rr=>cases rr;obtain⟨t,rfl⟩:=r;exact call_range_1 (RF I1 (by omega) (by omega) q1 q2 (by simpa using q))
def sJ(wi:TI)(g:TG)(tb:TS):TS:=fun D σ H=>wi σ H fun J H1=>∃W:Nat->Nat->St->Hp->Prop,(∃m,W 0 m σ H1)/\∀i m σ H,W i m σ H ->(J.stop i H/\D.nx σ H)\/(J.go i H/\∃N:St->Hp->Prop,(∀σ' H',N σ' H'->∃m',m'<m/\W (i+1) m' σ' H')/\∀x H',J.yld i H x H'->g x σ H' fun σ2 H2=>tb { D with nx:=N,ct:=N,bk:=D.nx } σ2 H2)
def pA(fp:List Addr)(h:Heap):List (Addr×Obj):=fp.filterMap fun b=>(h.get? b).map fun o=>(b,o)
theorem pX{fp:List Addr}{h:Heap}{b:Addr}{o:Obj}(hb:b∈fp)(e:h.get? b=some o):(b,o)∈pA fp h:=QaK.mpr ⟨b,hb,by rw[e];rfl⟩
theorem Tg{fp:List Addr}{h:Heap}{p:Addr×Obj}(hp:p∈pA fp h):p.1∈fp/\h.get? p.1=some p.2:=by obtain⟨b,hb,e⟩:=QaK.mp hp;cases q:h.get? b with
|none=>rw[q]at e;cases e
|some o=>rw[q]at e;have e':(b,o)=p:=J_ e;subst e';exact⟨hb,q⟩
theorem Inv.pinned{pz:List (Addr×Obj)}{σ:St}{H:Hp}{s:c_}{fp:List Addr}(I:Inv X pz σ H s)(hf:∀b∈fp,eY X pz H b)(ho:∀b∈fp,∃o,s.heap.get? b=some o/\∀v,o.data≠.cell v):Inv X (pz++pA fp s.heap) σ H s:=I.pins_of fun p hp=>(QaJ.mp hp).elim (fun z=>I.pin p (Q_ _ z)) fun z=>by obtain⟨hb,e⟩:=Tg z;obtain⟨f0,f1,f2,_⟩:=hf p.1 hb;obtain⟨o,e',d⟩:=ho p.1 hb;rw[e]at e';cases e';exact⟨e,f0,f1,f2,d⟩
theorem Inv.unpinned{pz pl:List (Addr×Obj)}{σ:St}{H:Hp}{s:c_}(I:Inv X (pz++pl) σ H s):Inv X pz σ H s:=I.pins_of fun p hp=>I.pin p (Q_ _ (QaN _ hp))
theorem uS{iter:Expr}{body:List Stmt}{wi:TI}{g:TG}{tb:TS}{pos:Pos}(hp:Qc8 (E_ X.prog X.w) X.A X.env X.xe)(hc:X.calm=true)(hi:PI X tg iter wi)(hg:PG X tg g)(hb:eD X body tb)(hs:∀x,QaH iter X.env x=pure x:=by intro _;rfl):PS X (.For tg iter body [] pos) (sJ wi g tb):=by
 intro pz s σ H D I h;refine wpAny_For (bR (hi pz s σ H _ I h) fun v s1 h1=>bR h1 fun itv s2 h2=>?_) hs;obtain⟨it,fp,tn,J,H2,e,I2,T,Cl,f2,W,⟨m0,w0⟩,turn⟩:=h2;subst e;have Y:∀{H':Hp},(∀b∈fp,H' b=none)->∀b∈fp,eY X pz H' b:=fun hn b hb=>⟨hn b hb,(f2 b hb).2⟩
 refine Qej (fun n s'=>∃i σ' H',Inv X pz σ' H' s'/\tn i s'.heap/\(∀b∈fp,H' b=none)/\W i n σ' H') ?_ m0 ⟨0,σ,H2,I2,Cl,fun b hb=>(f2 b hb).1,w0⟩
 rintro n s3 ⟨i,σ3,H3,I3,st3,fr3,w3⟩
 rcases turn i n σ3 H3 w3 with⟨stop,qn⟩|⟨go,N,hN,step⟩
 .refine Qbn hp (bR (T.done X rfl rfl rfl hc i pz s3 σ3 H3 X.xe I3 (Y fr3) st3 stop) fun r s4 ⟨hr,I4⟩=>?_);subst hr;exact QbM ⟨σ3,H3,I4,qn⟩
 .refine Qbn hp (bR (T.item X rfl rfl rfl hc i pz s3 σ3 H3 X.xe I3 (Y fr3) st3 go) fun r s4 ⟨u,hr,h4⟩=>?_);subst hr;refine Qbn hp (bR h4 fun _ s5 ⟨x,H5,I5,r5,y5,st5,fr5⟩=>?_);have BT:=I5.pinned (Y fr5) (T.obj _ _ st5);refine Qbn hp (bR (hg _ s5 σ3 H5 x u _ BT r5 (step x H5 y5)) fun _ s6 ⟨σ6,H6,I6,q6⟩=>?_);refine Qbn hp (bR (hb _ s6 σ6 H6 _ I6 q6) fun f s7 q7=>?_);have Z:∀{U:St}{H7:Hp},Inv X (pz++pA fp s5.heap) U H7 s7->N U H7->∃m,m<n/\∃i σ' H',Inv X pz σ' H' s7/\tn i s7.heap/\(∀b∈fp,H' b=none)/\W i m σ' H':=fun{U H7} I7 n7=>by obtain⟨m',hm,w7⟩:=hN U H7 n7;refine⟨m',hm,i+1,U,H7,I7.unpinned,T.keep _ _ _ st5 fun b hb o e=>(I7.pin (b,o) (Q_ _ (Q_ _ (pX hb e)))).1,fun b hb=>?_,w7⟩;obtain⟨o,e,d⟩:=T.obj _ _ st5 b hb;exact(I7.pin (b,o) (Q_ _ (Q_ _ (pX hb e)))).2.1
  cases f with
 |next=>obtain⟨U,H7,I7,n7⟩:=q7;exact Z I7 n7
 |cont=>obtain⟨U,H7,I7,n7⟩:=q7;exact Z I7 n7
 |brk=>obtain⟨U,H7,I7,q7⟩:=q7;exact⟨U,H7,I7.unpinned,q7⟩
 |ret v=>obtain⟨x7,U,H7,I7,r7,q7⟩:=q7;exact⟨x7,U,H7,I7.unpinned,r7,q7⟩
end
abbrev R2:=V->V->Hp->VK->Prop
def cM(X:Cx)(f:a_->a_->Sem a_)(r:R2):Prop:=∀(pz:List (Addr×Obj))(s:c_)(σ:St)(H:Hp)(x y:V)(v u:a_)(Q:VK),Inv X pz σ H s->bH x v->bH y u->r x y H Q ->x_ (E_ X.prog X.w) X.A (f v u) (EP X pz σ Q) X.xe s
def EO(X:Cx)(f:a_->Sem a_)(r:V->Hp->VK->Prop):Prop:=∀(pz:List (Addr×Obj))(s:c_)(σ:St)(H:Hp)(x:V)(v:a_)(Q:VK),Inv X pz σ H s->bH x v->r x H Q ->x_ (E_ X.prog X.w) X.A (f v) (EP X pz σ Q) X.xe s
def gL(X:Cx)(f:a_)(r:List V->Hp->VK->Prop):Prop:=∀(pz:List (Addr×Obj))(s:c_)(σ:St)(H:Hp)(xs:List V)(us:List a_)(Q:VK),Inv X pz σ H s->aP xs us->r xs H Q ->x_ (E_ X.prog X.w) X.A (call f us) (EP X pz σ Q) X.xe s
def EQ(X:Cx)(r:V->Hp->(Bool->Hp->Prop)->Prop):Prop:=∀(pz:List (Addr×Obj))(s:c_)(σ:St)(H:Hp)(x:V)(v:a_)(Q:Bool->Hp->Prop),Inv X pz σ H s->bH x v->r x H Q ->x_ (E_ X.prog X.w) X.A (truthy v) (TP X pz σ Q) X.xe s
def sI(r:R2)(ta tb:TE):TE:=fun σ H Q=>ta σ H fun x H1=>tb σ H1 fun y H2=>r x y H2 Q
def WG(r:V->Hp->VK->Prop)(ta:TE):TE:=fun σ H Q=>ta σ H fun x H1=>r x H1 Q
def rI(C:Int->Int->Prop)(g:Int->Int->V):R2:=fun x y H Q=>∃i j,x=.int i/\y=.int j/\C i j/\Q (g i j) H
def la(g:Int->Int->V):R2:=fun x y H Q=>∃i j,x=.int i/\y=.int j/\Q (g i j) H
def rU(g:Int->V):V->Hp->VK->Prop:=fun x H Q=>∃i,x=.int i/\Q (g i) H
variable{c:Expr}{tc:TE}
section
variable{a:Expr}
theorem oU(ha:PE X a ta)(hb:PE X b tb){pz:List (Addr×Obj)}{s:c_}{σ:St}{H:Hp}{R:V->V->Hp->Prop}(I:Inv X pz σ H s)(h:ta σ H fun x H1=>tb σ H1 fun y H2=>R x y H2){Q:a_->c_->Prop}{f:a_->a_->Sem a_}(hf:∀v u s2 x y H2,Inv X pz σ H2 s2->bH x v->bH y u->R x y H2->x_ (E_ X.prog X.w) X.A (f v u) Q X.xe s2):x_ (E_ X.prog X.w) X.A (eval a X.env) (fun v s₁=>x_ (E_ X.prog X.w) X.A (eval b X.env) (fun u U=>x_ (E_ X.prog X.w) X.A (f v u) Q X.xe U) X.xe s₁) X.xe s:=by refine bR (ha pz s σ H _ I h) fun v s1 ⟨x,H1,I1,r1,q1⟩=>?_;refine bR (hb pz s1 σ H1 _ I1 q1) fun u s2 ⟨y,H2,I2,r2,q2⟩=>?_;exact hf v u s2 x y H2 I2 r1 r2 q2
theorem Ff{op:Operator}{r:R2}(ho:cM X (Qbc op) r)(ha:PE X a ta)(hb:PE X b tb):PE X (.BinOp a op b pos) (sI r ta tb):=by intro pz s σ H Q I h;exact wpAny_BinOp (oU ha hb I h fun v u s2 x y H2 I2 rx ry q=>ho pz s2 σ H2 x y v u Q I2 rx ry q)
theorem VT{op:UnaryOp}{r:V->Hp->VK->Prop}(ho:EO X (unaryOp op) r)(ha:PE X a ta):PE X (.UnaryOp op a pos) (WG r ta):=by intro pz s σ H Q I h;exact UnaryOp_ (bR (ha pz s σ H _ I h) fun v s1 ⟨x,H1,I1,r1,q1⟩=>ho pz s1 σ H1 x v Q I1 r1 q1)
theorem qe{f:a_->a_->Sem a_}{C:Int->Int->Prop}{g:Int->Int->Int}(U:∀(i j:Int)(t u:Tok)(s:c_)(Q:a_->c_->Prop)(E:a_->c_->Prop),C i j->Q (.int (g i j) s.toks) { s with toks:=s.toks+1 }->x_ (E_ X.prog X.w) X.A (f (.int i t) (.int j u)) Q E s):cM X f (rI C fun i j=>.int (g i j)):=by intro pz s σ H x y v u Q I rx ry h;obtain⟨i,j,rfl,rfl,hc,q⟩:=h;obtain⟨t,rfl⟩:=rx;obtain⟨t',rfl⟩:=ry;exact U i j t t' s _ _ hc ⟨.int (g i j),H,I.tok _,⟨_,rfl⟩,q⟩
theorem sZ{f:a_->a_->Sem a_}{g:Int->Int->Int}(U:∀(i j:Int)(t u:Tok)(s:c_)(Q:a_->c_->Prop)(E:a_->c_->Prop),Q (.int (g i j) s.toks) { s with toks:=s.toks+1 }->x_ (E_ X.prog X.w) X.A (f (.int i t) (.int j u)) Q E s):cM X f (la fun i j=>.int (g i j)):=by intro pz s σ H x y v u Q I rx ry h;obtain⟨i,j,rfl,rfl,q⟩:=h;obtain⟨t,rfl⟩:=rx;obtain⟨t',rfl⟩:=ry;exact U i j t t' s _ _ ⟨.int (g i j),H,I.tok _,⟨_,rfl⟩,q⟩
theorem oN{f:a_->a_->Sem a_}{g:Int->Int->Bool}(U:∀(i j:Int)(t u:Tok)(s:c_)(Q:a_->c_->Prop)(E:a_->c_->Prop),Q (.bool (g i j)) s->x_ (E_ X.prog X.w) X.A (f (.int i t) (.int j u)) Q E s):cM X f (la fun i j=>.bl (g i j)):=by intro pz s σ H x y v u Q I rx ry h;obtain⟨i,j,rfl,rfl,q⟩:=h;obtain⟨t,rfl⟩:=rx;obtain⟨t',rfl⟩:=ry;exact U i j t t' s _ _ ⟨.bl (g i j),H,I,rfl,q⟩
def jL(i j:Int):Prop:=0<j/\j<1073741824
def jK(i j:Int):Prop:=0<=j/\j<=1000000/\i.natAbs<2^64
def i5(i j:Int):Prop:=(-(2^64)<i/\i<2^64)\/(-(2^64)<j/\j<2^64)
theorem i5.ok{i j:Int}(h:i5 i j):IntMulOk i j:=by
 rcases h with⟨h1,h2⟩|⟨h1,h2⟩
 .exact .of_left (intBits_le_64 h1 h2)
 .exact .of_right (intBits_le_64 h1 h2)
theorem Gm:cM X (Qbc .Add) (la fun i j=>.int (i+j)):=sZ fun _ _ _ _ _ _ _ q=>add_int q
theorem MJ:cM X (Qbc .Sub) (la fun i j=>.int (i-j)):=sZ fun _ _ _ _ _ _ _ q=>sub_int q
theorem MG:cM X (Qbc .Mult) (rI i5 fun i j=>.int (i*j)):=qe fun _ _ _ _ _ _ _ hc q=>mul_int q hc.ok
theorem OQ:cM X (Qbc .FloorDiv) (rI jL fun i j=>.int (i/j)):=qe fun i j _ _ _ _ _ hc q=>by have h1:(0:Int)<j:=hc.1;have h2:j<1073741824:=hc.2;exact floordiv_int (by omega) (by rw[Qdd i (by omega)];exact q) (.inl (PyProof.noPylong_small (by omega)))
theorem No:cM X (Qbc .Mod) (rI (fun _ j=>0<j) fun i j=>.int (i%j)):=qe fun i j _ _ _ _ _ hc q=>by have h1:(0:Int)<j:=hc;exact mod_int' (by omega) (by rw[Int.fmod_eq_emod_of_nonneg i (by omega)];exact q)
theorem MH:cM X (Qbc .Pow) (rI jK fun i j=>.int (i^j.toNat)):=qe fun _ _ _ _ _ _ _ hc q=>pow_int_small hc.1 hc.2.1 hc.2.2 q
theorem WF{f:a_->Sem a_}{g:Int->Int}(U:∀(i:Int)(t:Tok)(s:c_)(Q:a_->c_->Prop)(E:a_->c_->Prop),Q (.int (g i) s.toks) { s with toks:=s.toks+1 }->x_ (E_ X.prog X.w) X.A (f (.int i t)) Q E s):EO X f (rU fun i=>.int (g i)):=by intro pz s σ H x v Q I rx h;obtain⟨i,rfl,q⟩:=h;obtain⟨t,rfl⟩:=rx;exact U i t s _ _ ⟨.int (g i),H,I.tok _,⟨_,rfl⟩,q⟩
theorem NN:EO X (unaryOp .USub) (rU fun i=>.int (-i)):=WF fun _ _ _ _ _ q=>neg_int q
end
def lW:V->V->Bool
|.non,.non=>true|.non,.int _=>true|.int _,.non=>true|.non,.bl _=>true|.bl _,.non=>true|.non,.str _=>true|.str _,.non=>true
|.int _,.int _=>true|.bl _,.bl _=>true|.str _,.str _=>true|.byt _,.byt _=>true
|.int _,.str _=>true|.str _,.int _=>true|.bl _,.str _=>true|.str _,.bl _=>true
|_,_=>false
def LI:R2:=fun x y H Q=>lW x y=true/\Q (.bl (decide (x=y))) H
def LH:R2:=fun x y H Q=>lW x y=true/\Q (.bl (! decide (x=y))) H
theorem Bq{i j:Int}:decide (V.int i=V.int j)=(i==j):=by rw[T_];simp
theorem AQ{i j:Bool}:decide (V.bl i=V.bl j)=(i==j):=by rw[T_];simp
theorem Br{i j:Str}:decide (V.str i=V.str j)=(i==j):=by rw[T_];simp
theorem Hg{i j:Array UInt8}:decide (V.byt i=V.byt j)=(i.toList==j.toList):=by rw[T_];cases i;cases j;simp
section
variable{a:Expr}
theorem dM{pz:List (Addr×Obj)}{σ:St}{H:Hp}{s:c_}{Q:VK}{k k':Bool}(I:Inv X pz σ H s)(q:Q (.bl k) H)(e:k=k'):EP X pz σ Q (.bool k') s:=by subst e;exact⟨.bl k,H,I,rfl,q⟩
theorem Fi:cM X (Qak .Eq) LI:=by intro pz s σ H x y v u Q I rx ry h;obtain⟨hs,q⟩:=h;cases x with
|non=>cases rx;cases y with
 |non=>cases ry;exact PySem.EqNone.eq_none_none (dM I q (by simp))
 |bl j=>cases ry;exact PySem.EqNone.eq_none_bool (dM I q (by simp))
 |int j=>obtain⟨t',rfl⟩:=ry;exact PySem.EqNone.eq_none_int (dM I q (by simp))
 |str j=>obtain⟨t',rfl⟩:=ry;exact PySem.EqNone.eq_none_str (dM I q (by simp))
 |_=>exact absurd (show false=true from hs) d_
|bl i=>cases rx;cases y with
 |non=>cases ry;exact PySem.EqNone.eq_bool_none (dM I q (by simp))
 |bl j=>cases ry;exact eq_bool (dM I q AQ)
 |str j=>obtain⟨t',rfl⟩:=ry;exact QfM (dM I q (by simp))
 |_=>exact absurd (show false=true from hs) d_
|int i=>obtain⟨t,rfl⟩:=rx;cases y with
 |non=>cases ry;exact PySem.EqNone.eq_int_none (dM I q (by simp))
 |int j=>obtain⟨t',rfl⟩:=ry;exact eq_int (dM I q Bq)
 |str j=>obtain⟨t',rfl⟩:=ry;exact QfS (dM I q (by simp))
 |_=>exact absurd (show false=true from hs) d_
|str i=>obtain⟨t,rfl⟩:=rx;cases y with
 |non=>cases ry;exact PySem.EqNone.eq_str_none (dM I q (by simp))
 |bl j=>cases ry;exact QfN (dM I q (by simp))
 |int j=>obtain⟨t',rfl⟩:=ry;exact QfT (dM I q (by simp))
 |str j=>obtain⟨t',rfl⟩:=ry;exact eq_str (dM I q Br)
 |_=>exact absurd (show false=true from hs) d_
|byt i=>obtain⟨t,rfl⟩:=rx;cases y with
 |byt j=>obtain⟨t',rfl⟩:=ry;exact W.eq_bytes (dM I q Hg)
 |_=>exact absurd (show false=true from hs) d_
|_=>cases y <;> exact absurd (show false=true from hs) d_
theorem VO:cM X (Qak .NotEq) LH:=by intro pz s σ H x y v u Q I rx ry h;obtain⟨hs,q⟩:=h;cases x with
|non=>cases rx;cases y with
 |non=>cases ry;exact PySem.EqNone.ne_none_none (dM I q (by simp))
 |bl j=>cases ry;exact PySem.EqNone.ne_none_bool (dM I q (by simp))
 |int j=>obtain⟨t',rfl⟩:=ry;exact PySem.EqNone.ne_none_int (dM I q (by simp))
 |str j=>obtain⟨t',rfl⟩:=ry;exact PySem.EqNone.ne_none_str (dM I q (by simp))
 |_=>exact absurd (show false=true from hs) d_
|bl i=>cases rx;cases y with
 |non=>cases ry;exact PySem.EqNone.ne_bool_none (dM I q (by simp))
 |bl j=>cases ry;exact ne_bool (dM I q (congrArg not AQ))
 |str j=>obtain⟨t',rfl⟩:=ry;exact QfO (dM I q (by simp))
 |_=>exact absurd (show false=true from hs) d_
|int i=>obtain⟨t,rfl⟩:=rx;cases y with
 |non=>cases ry;exact PySem.EqNone.ne_int_none (dM I q (by simp))
 |int j=>obtain⟨t',rfl⟩:=ry;exact ne_int (dM I q (congrArg not Bq))
 |str j=>obtain⟨t',rfl⟩:=ry;exact QfU (dM I q (by simp))
 |_=>exact absurd (show false=true from hs) d_
|str i=>obtain⟨t,rfl⟩:=rx;cases y with
 |non=>cases ry;exact PySem.EqNone.ne_str_none (dM I q (by simp))
 |bl j=>cases ry;exact QfP (dM I q (by simp))
 |int j=>obtain⟨t',rfl⟩:=ry;exact QfV (dM I q (by simp))
 |str j=>obtain⟨t',rfl⟩:=ry;exact ne_str (dM I q (congrArg not Br))
 |_=>exact absurd (show false=true from hs) d_
|byt i=>obtain⟨t,rfl⟩:=rx;cases y with
 |byt j=>obtain⟨t',rfl⟩:=ry;exact W.ne_bytes (dM I q (congrArg not Hg))
 |_=>exact absurd (show false=true from hs) d_
|_=>cases y <;> exact absurd (show false=true from hs) d_
theorem Ak:cM X (Qak .Lt) (la fun i j=>.bl (decide (i<j))):=oN fun _ _ _ _ _ _ _ q=>lt_int q
theorem VN:cM X (Qak .LtE) (la fun i j=>.bl (decide (i<=j))):=oN fun _ _ _ _ _ _ _ q=>le_int q
theorem Fj:cM X (Qak .Gt) (la fun i j=>.bl (decide (j<i))):=oN fun _ _ _ _ _ _ _ q=>gt_int q
theorem S9:cM X (Qak .In) (fun x y H Q=>∃i j,x=.str i/\y=.str j/\Q (.bl (!(Qa3 j i 0 j.length 1).isEmpty)) H):=by intro pz s σ H x y v u Q I rx ry h;obtain⟨i,j,rfl,rfl,q⟩:=h;obtain⟨t,rfl⟩:=rx;obtain⟨t',rfl⟩:=ry;exact in_str (dM I q rfl)
theorem Nn:cM X (Qak .Is) (fun x y H Q=>y=.non/\Q (.bl (decide (x=.non))) H):=by
 intro pz s σ H x y v u Q I rx ry h;obtain⟨rfl,q⟩:=h;cases ry;refine is_none_gen (dM I q ?_);cases x <;> first
  |(cases rx;rfl)
  |(obtain⟨t,rfl⟩:=rx;rfl)
theorem Qa:cM X (Qak .IsNot) (fun x y H Q=>y=.non/\Q (.bl (! decide (x=.non))) H):=by
 intro pz s σ H x y v u Q I rx ry h;obtain⟨rfl,q⟩:=h;cases ry;refine isnot_none_gen (dM I q ?_);cases x <;> first
  |(cases rx;rfl)
  |(obtain⟨t,rfl⟩:=rx;rfl)
theorem cM.or{f:a_->a_->Sem a_}{r r':R2}(h:cM X f r)(h':cM X f r'):cM X f (fun x y H Q=>r x y H Q\/r' x y H Q):=by
 intro pz s σ H x y v u Q I rx ry q;rcases q with q|q
 .exact h pz s σ H x y v u Q I rx ry q
 .exact h' pz s σ H x y v u Q I rx ry q
theorem lA(b:Expr){op:CmpOp}(h:op≠.In:=by decide)(h2:op≠.NotIn:=by decide):Qbt op b=false:=by
 have e1:(op==CmpOp.In)=false:=by cases op <;> first|rfl|exact absurd rfl h
 have e2:(op==CmpOp.NotIn)=false:=by cases op <;> first|rfl|exact absurd rfl h2
 cases b <;> simp[Qbt,e1,e2]
theorem Qe{op:CmpOp}{r:R2}(ho:cM X (Qak op) r)(ha:PE X a ta)(hb:PE X b tb)(hm:Qbt op b=false):PE X (.Compare a [op] [b] pos) (sI r ta tb):=by intro pz s σ H Q I h;exact wpAny_Compare1 (oU ha hb I h fun v u s2 x y H2 I2 rx ry q=>ho pz s2 σ H2 x y v u Q I2 rx ry q) hm
def MD(t:TE):TT:=fun σ H Q=>t σ H fun x H'=>∃k,x=.bl k/\Q k H'
theorem PP{op:CmpOp}{r:R2}(ho:cM X (Qak op) r)(ha:PE X a ta)(hb:PE X b tb)(hm:Qbt op b=false):PT X (.Compare a [op] [b] pos) (MD (sI r ta tb)):=by intro pz s σ H Q I h;refine wpAny_isTrue_Compare1 (bR (ha pz s σ H _ I h) fun v s1 ⟨x,H1,I1,r1,q1⟩=>bR (hb pz s1 σ H1 _ I1 q1) fun u s2 ⟨y,H2,I2,r2,q2⟩=>bR (ho pz s2 σ H2 x y v u _ I2 r1 r2 q2) fun c s3 ⟨z,H3,I3,r3,k,e,q3⟩=>?_) hm;subst e;cases r3;exact Qbq ⟨H3,I3,q3⟩
def F4(r r':R2)(ta tb tc:TE):TE:=fun σ H Q=>ta σ H fun x H1=>tb σ H1 fun y H2=>r x y H2 fun z H3=>∃k,z=.bl k /\(if k=true then tc σ H3 fun w' H4=>r' y w' H4 Q else Q (.bl false) H3)
theorem QN{op U:CmpOp}{r r':R2}(ho:cM X (Qak op) r)(ho':cM X (Qak U) r')(ha:PE X a ta)(hb:PE X b tb)(hc:PE X c tc)(hm:lastMarks [op,U] [b,c]=false:=by with_unfolding_all rfl):PE X (.Compare a [op,U] [b,c] pos) (F4 r r' ta tb tc):=by intro pz s σ H Q I h;refine Compare_chain (bR (ha pz s σ H _ I h) fun v s1 ⟨x,H1,I1,r1,q1⟩=>chain_link (bR (hb pz s1 σ H1 _ I1 q1) fun u s2 ⟨y,H2,I2,r2,q2⟩=>bR (ho pz s2 σ H2 x y v u _ I2 r1 r2 q2) fun d s3 ⟨z,H3,I3,r3,k,e,q3⟩=>?_)) hm;subst e;cases r3;refine Qbq ?_;cases k with
|false=>exact ite_ff ⟨.bl false,H3,I3,rfl,q3⟩
|true=>exact ite_tt (chain_last (bR (hc pz s3 σ H3 _ I3 q3) fun w' s4 ⟨z',H4,I4,r4,q4⟩=>ho' pz s4 σ H4 y z' u w' Q I4 r2 r4 q4))
def oV(K:W.Frag)(x:V)(H:Hp)(k:Bool):Prop:=match x with
|.non=>k=false
|.bl b=>k=b
|.int i=>k=(i != 0)
|.str y=>y.length<=sizeLine/\k=((y.length:Int) != 0)
|.byt y=>y.size<=sizeLine/\k=((y.size:Int) != 0)
|.ref p=>(∃xs,cX K H p xs/\k = ! xs.isEmpty)\/(∃xs,dG K H p xs/\k = ! xs.isEmpty)\/∃kvs,Rd H p (.dK kvs)/\k = ! kvs.isEmpty
|_=>False
theorem Tp{κ:Type}{kvs:List (κ×V)}{vs:List (κ×a_)}(r:KV kvs vs):(! vs.isEmpty) = ! kvs.isEmpty:=by cases r <;> rfl
theorem JU{xs:List V}{its:List a_}(r:aP xs its):(! its.toArray.isEmpty) = ! xs.isEmpty:=by cases r <;> simp
theorem pw:(sizeLine:Nat)<2^63:=by rw[Qaa];decide
theorem NH:EQ X (fun x H Q=>∃k,oV X.K x H k/\Q k H):=by intro pz s σ H x v Q I rx h;obtain⟨k,e,q⟩:=h;have hl:=pw;have hs:sizeLine=16777216:=Qaa;cases x with
|non=>cases rx;have e':k=false:=e;subst e';exact truthy_none ⟨H,I,q⟩
|bl b=>cases rx;have e':k=b:=e;subst e';exact Qbq ⟨H,I,q⟩
|int i=>obtain⟨t,rfl⟩:=rx;have e':k=(i != 0):=e;subst e';exact PySem.P.truthy_int ⟨H,I,q⟩
|str y=>obtain⟨t,rfl⟩:=rx;obtain⟨hy,e'⟩:y.length<=sizeLine/\k=((y.length:Int) != 0):=e;subst e';exact PySem.P.truthy_str (by omega) ⟨H,I.tok _,q⟩
|byt y=>obtain⟨t,rfl⟩:=rx;obtain⟨hy,e'⟩:y.size<=sizeLine/\k=((y.size:Int) != 0):=e;subst e';exact W.truthy_bytes (by omega) ⟨H,I.tok _,q⟩
|ref p=>
  cases rx;have e':(∃xs,cX X.K H p xs/\k = ! xs.isEmpty)\/(∃xs,dG X.K H p xs/\k = ! xs.isEmpty)\/∃kvs,Rd H p (.dK kvs)/\k = ! kvs.isEmpty:=e;rcases e' with⟨xs,hx,e'⟩|⟨xs,hx,e'⟩|⟨kvs,hx,e'⟩
  .subst e';obtain⟨its,r,pl,hz⟩:=I.list hx;have hlen:=r.length;exact wpAny_truthy_list pl.isList (by simp only[q_];omega) ⟨H,I.tok _,by rw[JU r];exact q⟩
  .subst e';obtain⟨its,r,pl,hz⟩:=I.tuple hx;have hlen:=r.length;exact truthy_tuple pl (by simp only[q_];omega) ⟨H,I.tok _,by rw[JU r];exact q⟩
  .subst e';obtain⟨hz,hS,vs,r,m⟩:kvs.length<=sizeLine/\(p==Qbs)=false/\∃vs,KV kvs vs/\s.heap.DictOf (gO X.prog X.w) p vs:=hx.ok I.hok;have hlen:kvs.length=vs.length:=Paired.length r;exact wpAny_truthy_dict hS m (by omega) ⟨H,I.tok _,by rw[Tp r];exact q⟩
|_=>exact(show False from e).elim
theorem Sd(ha:PE X a ta)(he:∀whole,isTrue a X.env whole=(do let v <-whole;QdJ a.pos;Qcz [v] (truthy v))):PT X a (fun σ H Q=>ta σ H fun x H'=>∃k,oV X.K x H' k/\Q k H'):=by intro pz s σ H Q I h;exact isTrue_plain (bR (ha pz s σ H _ I h) fun v s1 ⟨x,H1,I1,r1,q1⟩=>NH pz s1 σ H1 x v Q I1 r1 q1) (he _)
theorem JY:cM X (Qbc .Add) (fun x y H Q=>∃i j,x=.str i/\y=.str j/\i.length+j.length<=sizeLine/\Q (.str (i++j)) H):=by intro pz s σ H x y v u Q I rx ry h;obtain⟨i,j,rfl,rfl,hz,q⟩:=h;obtain⟨t,rfl⟩:=rx;obtain⟨t',rfl⟩:=ry;exact add_str (fun t' tk=>⟨.str (i++j),H,I.tok _,⟨_,rfl⟩,q⟩) hz
theorem jp{x:V}{us:List a_}(r:aP [x] us):∃u,us=[u]/\bH x u:=by cases r with
|cons r1 r2=>cases r2;exact⟨_,rfl,r1⟩
theorem uJ{x y:V}{us:List a_}(r:aP [x,y] us):∃u w',us=[u,w']/\bH x u/\bH y w':=by cases r with
|cons r1 r2=>cases r2 with
 |cons r3 r4=>cases r4;exact⟨_,_,rfl,r1,r3⟩
theorem Rp:gL X (.builtin "abs") (fun xs H Q=>∃i,xs=[.int i]/\Q (.int (if i<0 then-i else i)) H):=by intro pz s σ H xs us Q I r h;obtain⟨i,rfl,q⟩:=h;obtain⟨u,rfl,t,rfl⟩:=jp r;exact call_abs_int fun u tk=>⟨.int (if i<0 then-i else i),H,I.tok _,⟨_,rfl⟩,q⟩
def tM(K:W.Frag)(x:V)(H:Hp)(n:Nat):Prop:=match x with
|.str y=>y.length<=sizeLine/\n=y.length
|.byt y=>y.size<=sizeLine/\n=y.size
|.ref p=>(∃xs,cX K H p xs/\n=xs.length)\/∃xs,dG K H p xs/\n=xs.length
|_=>False
theorem QS:gL X (.builtin "len") (fun xs H Q=>∃x n,xs=[x]/\tM X.K x H n/\Q (.int n) H):=by intro pz s σ H xs us Q I r h;obtain⟨x,n,rfl,e,q⟩:=h;obtain⟨u,rfl,rx⟩:=jp r;have hl:=pw;have hs:sizeLine=16777216:=Qaa;cases x with
|str y=>obtain⟨t,rfl⟩:=rx;obtain⟨hy,e'⟩:y.length<=sizeLine/\n=y.length:=e;subst e';exact len_str (by omega) ⟨.int _,H,I.tok _,⟨_,rfl⟩,q⟩
|byt y=>obtain⟨t,rfl⟩:=rx;obtain⟨hy,e'⟩:y.size<=sizeLine/\n=y.size:=e;subst e';exact W.len_bytes (by omega) ⟨.int _,H,I.tok _,⟨_,rfl⟩,q⟩
|ref p=>
  cases rx;have e':(∃xs,cX X.K H p xs/\n=xs.length)\/∃xs,dG X.K H p xs/\n=xs.length:=e;rcases e' with⟨xs,hx,e'⟩|⟨xs,hx,e'⟩
  .subst e';obtain⟨its,r',pl,hz⟩:=I.list hx;have hlen:=r'.length;exact Calls.call_len_list pl.isList (by simp only[q_];omega) ⟨.int xs.length,H,I.tok _,⟨_,by simp only[q_];rw[hlen]⟩,q⟩
  .subst e';obtain⟨its,r',pl,hz⟩:=I.tuple hx;have hlen:=r'.length;exact len_tuple pl (by simp only[q_];omega) ⟨.int xs.length,H,I.tok _,⟨_,by simp only[q_];rw[hlen]⟩,q⟩
|_=>exact(show False from e).elim
end
structure ObjM(h:Heap)(x dx C:Addr)(mA:Str->Option a_):Prop where
 obj:h.get? x=some (W.instObj C dx)
 ns:h.Ns1 dx mA
 ne:dx≠x
theorem Sm{h:Heap}{dx:Addr}{mA:Str->Option a_}(n:h.Ns1 dx mA):∃od,h.get? dx=some od/\∀name,W.lookIn name od=some (mA name):=by
 obtain⟨o,es,ep,ho,hd,hk,_,hm⟩:=n;refine⟨o,ho,fun name=>?_⟩;have e:=hm name;unfold nsFind findBy at e;rw[<-Qer]at e;unfold W.lookIn;rw[hd]
 dsimp only
 split
 .rename_i y q;rw[q]at e;exact congrArg some e
 .rename_i q;rw[q]at e;have a:es.toList.any (·.refKey)=false:=by rw[List.any_eq_false];intro y hy;obtain⟨z,t,U⟩:=hk y (Array.mem_toList_iff.mp hy);simp[DictEntry.refKey,U]
  have a':¬ es.toList.any (·.refKey)=true:=by rw[a];exact d_
  rw[if_neg a'];exact congrArg some e
theorem ObjM.look{h:Heap}{x dx C:Addr}{mA:Str->Option a_}(I:ObjM h x dx C mA):∃od,W.InstAt h x (W.instObj C dx) C (some od)/\∀name,W.lookIn name od=some (mA name):=let⟨od,ho,hl⟩:=Sm I.ns
 ⟨od,⟨I.obj,rfl,rfl,ho⟩,hl⟩
variable{A:Qag}{dx C f:Addr}
section
variable{prog:H_}{K:W.Frag}{x:Addr}{mA:Str->Option a_}{name:Str}{v:a_}
theorem O2{U:Bool}{Q:a_->c_->Prop}(X:K.In s.heap)(I:ObjM s.heap x dx C mA)(hg:W.plainGet K C name=true)(hh:W.hasDictIn K C=true)(ha:W.findIn K (.ref C) name=some none)(hv:mA name=some v)(Y:W.handedIn v=true)(h:Q v { s with toks:=s.toks+1 }):x_ (E_ prog w) A (getAttr (.ref x) name U) Q E s:=by obtain⟨od,J,hl⟩:=I.look;exact W.get_value X J (W.plainGet_of hg).1 (W.findObj_own hh ha rfl (by rw[hl,hv])) Y h
theorem QZ{pl:Sem Bool}{Q:a_×List a_->c_->Prop}(X:K.In s.heap)(I:ObjM s.heap x dx C mA)(hg:W.plainGet K C name=true)(hf:W.findIn K (.ref C) name=some (some (.ref f)))(ht:W.isFn K (.ref f)=true)(hv:mA name=none)(h:Q (.ref f,[.ref x]) s):x_ (E_ prog w) A (QdC (.ref x) name pl) Q E s:=by obtain⟨od,J,hl⟩:=I.look;exact W.method_fn X J (W.plainGet_of hg).1 (W.plainGet_of hg).2 hf (beq_iff_eq.mp ht) (by show(W.lookIn name od).map (·.isSome)=some false;rw[hl,hv];rfl) h
theorem Po{ns:List Str}{Q:Unit->c_->Prop}(X:K.In s.heap)(I:ObjM s.heap x dx C mA)(hs:W.findIn K (.ref C) "__setattr__" = some (some (.builtin "object.__setattr__")))(hp:W.plainOver K C=true)(ht:W.takerIn K C name=some none)(hh:W.hasDictIn K C=true)(hw:QeF mA ns)(hsz:ns.length<=sizeLine)(h:∀h',ObjM h' x dx C (fun y=>if y=name then some v else mA y)->Qc5 dx s.heap h'->Q () { s with heap:=h',toks:=s.toks+2 }):x_ (E_ prog w) A (setAttr (.ref x) name v) Q E s:=by obtain⟨od,J,hl⟩:=I.look;refine W.set_plain X J hs (W.osa_open (s:={ s with toks:=s.toks+1 }) (r:=none) X J hp ht fun b=>?_);obtain⟨cd,hc,Cl⟩:=W.any_some hh;have hx:s.heap.get? x=some ⟨.ref C,some dx,.plain,#[]⟩:=I.obj;refine b_ (n_ (b_ (b_ (Qde hx (b_ (W.Looks.here (s:={ s with toks:=s.toks+1 }) (W.looks_clsIn X hc) ?_))))));rw[Cl];refine n_ (a:=some dx) (b_ (n_ (b_ ?_)));refine wpAny_nsSet1 (s:={ s with toks:=s.toks+1 }) I.ns fun h' U Y=>?_;obtain⟨oD,KK,IO,Z,BT,Id⟩:=U.count (PySem.Within.cons name v hw);refine b_ (wpAny_lookBehind Z (by rw[BT];exact pastItsLine_dict (L_ Id (by rw[K_];omega))) ?_);exact n_ (h _ ⟨(Y.2 _ (Qby I.ne)).trans I.obj,U,I.ne⟩ Y)
theorem Rc{R:Qfv->c_->Prop}{vs:List a_}{kw:List (Str×a_)}(X:K.In s.heap)(hm:W.makesIn K C=true)(hi:W.findIn K (.ref C) "__init__" = some (some (.ref f)))(hf:W.typeIn K (.ref f)=some (.type "function"))(h:QcS (E_ prog w) (A.under (.builtin "type.__call__" ⟨.ref C::vs,kw⟩)) (.call (.ref f) ⟨.ref (s.heap.objs.size+1)::vs,kw⟩) (W.InitBack (s.heap.objs.size+1) R)
   { s with heap:=(s.heap.push W.emptyDict).push (W.instObj C s.heap.objs.size) }):QcS (E_ prog w) A (.call (.ref C) ⟨vs,kw⟩) R s:=by obtain⟨hh,g,d,t,os⟩:=s;exact W.make_core (W.makes_of X hm) (W.looks_findIn X hi) (fun self=>W.bind_fn X self hf) (.inl rfl) h
theorem Sn{R:Qfv->c_->Prop}(X:K.In s.heap)(hm:W.makesIn K C=true)(hi:W.findIn K (.ref C) "__init__" = some (some (.builtin "object.__init__")))(hb:∀self,W.Looks (E_ prog w) s.heap (Qfe (.builtin "object.__init__") self) (.builtin "object.__init__",[self]))(h:QcS (E_ prog w) (A.under (.builtin "type.__call__" ⟨[.ref C],[]⟩)) (.call (.builtin "object.__init__") ⟨[.ref (s.heap.objs.size+1)],[]⟩) (W.InitBack (s.heap.objs.size+1) R)
   { s with heap:=(s.heap.push W.emptyDict).push (W.instObj C s.heap.objs.size) }):QcS (E_ prog w) A (.call (.ref C) ⟨[],[]⟩) R s:=by obtain⟨hh,g,d,t,os⟩:=s;exact W.make_core (W.makes_of X hm) (W.looks_findIn X hi) hb (.inr ⟨rfl,rfl⟩) h
end
def putF(f:Str)(v:V):List (Str×V)->List (Str×V)
|[]=>[(f,v)]
|(g,x)::r=>if g=f then(g,v)::r else(g,x)::putF f v r
theorem J9(f g:Str)(v:V):∀fs:List (Str×V),(putF f v fs).lookup g=if g=f then some v else fs.lookup g
|[]=>by
  show Qa2 g [(f,v)]=_;by_cases h:g=f
  .have hb:(g==f)=true:=beq_iff_eq.mpr h;simp only[Qa2,hb,if_pos h]
  .have hb:(g==f)=false:=beq_eq_false_iff_ne.mpr h;simp only[Qa2,hb,if_neg h]
|(k,x)::r=>by
  have ih:=J9 f g v r;rw[show putF f v ((k,x)::r)=(if k=f then(k,v)::r else(k,x)::putF f v r)from rfl];by_cases hk:k=f
  .rw[if_pos hk];by_cases h:g=k
   .have hb:(g==k)=true:=beq_iff_eq.mpr h;simp only[Qa2,hb,if_pos (h.trans hk)]
   .have hb:(g==k)=false:=beq_eq_false_iff_ne.mpr h;simp only[Qa2,hb,if_neg (fun e:g=f=>h (e.trans hk.symm))]
  .rw[if_neg hk];by_cases h:g=k
   .have hb:(g==k)=true:=beq_iff_eq.mpr h;simp only[Qa2,hb,if_neg (fun e:g=f=>hk (h.symm.trans e))]
   .have hb:(g==k)=false:=beq_eq_false_iff_ne.mpr h;simp only[Qa2,hb];exact ih
theorem B6(f:Str)(v:V):∀fs:List (Str×V),f∈(putF f v fs).map (·.1)/\∀g,g∈fs.map (·.1)->g∈(putF f v fs).map (·.1)
|[]=>⟨by simp[putF],fun g h=>by simp at h⟩
|(k,x)::r=>by
  obtain⟨i1,i2⟩:=B6 f v r;rw[show putF f v ((k,x)::r)=(if k=f then(k,v)::r else(k,x)::putF f v r)from rfl];by_cases hk:k=f
  .rw[if_pos hk];subst hk;exact⟨by simp,fun g h=>by simpa using h⟩
  .rw[if_neg hk];refine⟨?_,fun g h=>?_⟩
   .rw[o_];exact k_ _ i1
   .rw[o_]at h ⊢;rcases t_.mp h with e|e
    .exact List.mem_cons.mpr (.inl e)
    .exact k_ _ (i2 g e)
theorem J8(f:Str)(v:V):∀fs:List (Str×V),(putF f v fs).length<=fs.length+1
|[]=>by simp[putF]
|(k,x)::r=>by
  have ih:=J8 f v r;rw[show putF f v ((k,x)::r)=(if k=f then(k,v)::r else(k,x)::putF f v r)from rfl];by_cases hk:k=f
  .rw[if_pos hk,K_,K_];omega
  .rw[if_neg hk,K_,K_];omega
theorem dL.some_of{v:V}{o:Option a_}(r:dL (some v) o):∃u,o=some u/\bH v u:=by cases o with
|none=>exact(show False from r).elim
|some u=>exact⟨u,rfl,r⟩
theorem dL.none_of{o:Option a_}(r:dL none o):o=none:=by cases o with
|none=>rfl
|some u=>exact(show False from r).elim
theorem Sw{v:V}{u:a_}(r:bH v u):W.handedIn u=true:=by cases v with
|non=>cases(show u=Value.none from r);rfl
|bl b=>cases(show u=Value.bool b from r);rfl
|int i=>obtain⟨t,e⟩:=(show ∃t,u=Value.int i t from r);cases e;rfl
|str x=>obtain⟨t,e⟩:=(show ∃t,u=Value.str x t from r);cases e;rfl
|byt b=>obtain⟨t,e⟩:=(show ∃t,u=Value.bytes b t from r);cases e;rfl
|flt b=>obtain⟨t,e⟩:=(show ∃t,u=Value.float b t from r);cases e;rfl
|ref a=>cases(show u=Value.ref a from r);rfl
|ty n=>cases(show u=Value.type n from r);rfl
section
variable{fs fs':List (Str×V)}
theorem vN(hok:HOk P w H h)(e:H a=some (.ins C dx fs)):∃mA,ObjM h a dx C mA/\(∀f,dL (fs.lookup f) (mA f))/\QeF mA (fs.map (·.1))/\fs.length<=1000/\H dx=some (.own a):=by
 obtain⟨d,z,ne,ob,mA,n,r,q⟩:=(show cY P w H h a (.ins C dx fs)from hok a _ e)
 exact⟨mA,⟨ob,n,ne⟩,r,q,z,d⟩
end
structure Cls(K:W.Frag)(C:Addr):Prop where
 pg:W.plainGet K C Qc9=true
 hd:W.hasDictIn K C=true
 po:W.plainOver K C=true
 sa:W.findIn K (.ref C) "__setattr__" = some (some (.builtin "object.__setattr__"))
theorem Cls.get{K:W.Frag}{C:Addr}(c:Cls K C)(f:Str):W.plainGet K C f=true:=c.pg
def lv(K:W.Frag)(C:Addr)(f:Str):Prop:=W.findIn K (.ref C) f=some none
theorem lv.taker{K:W.Frag}{C:Addr}{f:Str}(n:lv K C f):W.takerIn K C f=some none:=by unfold W.takerIn;rw[show W.findIn K (.ref C) f=some none from n];rfl
structure Meth(K:W.Frag)(C:Addr)(m:Str)(f:Addr):Prop where
 at_:W.findIn K (.ref C) m=some (some (.ref f))
 fn:W.isFn K (.ref f)=true
 kp:W.keepIn K (.ref f)=true
section
variable{fs:List (Str×V)}{f:Str}{v:V}
theorem Tl{b:Bool}{Q:a_->c_->Prop}(I:Inv X pz σ H s)(e:H a=some (.ins C dx fs))(c:Cls X.K C)(n:lv X.K C f)(l:fs.lookup f=some v)(h:∀u s',Inv X pz σ H s'->bH v u->Q u s'):x_ (E_ X.prog X.w) A (getAttr (.ref a) f b) Q E s:=by obtain⟨mA,O,r,_,_,_⟩:=vN I.hok e;obtain⟨u,hu,ru⟩:=dL.some_of (v:=v) (o:=mA f) (by rw[<-l];exact r f);exact O2 I.kIn O (c.get f) c.hd n hu (Sw ru) (h u _ (I.tok _) ru)
theorem Tn{m:Str}{g:Addr}{pl:Sem Bool}{Q:a_×List a_->c_->Prop}(I:Inv X pz σ H s)(e:H a=some (.ins C dx fs))(c:Cls X.K C)(k:Meth X.K C m g)(l:fs.lookup m=none)(h:Q (.ref g,[.ref a]) s):x_ (E_ X.prog X.w) A (QdC (.ref a) m pl) Q E s:=by obtain⟨mA,O,r,_,_,_⟩:=vN I.hok e;have hn:mA m=none:=dL.none_of (by rw[<-l];exact r m);exact QZ I.kIn O (c.get m) k.at_ k.fn hn h
theorem T7{y:V}{u:a_}{Q:Unit->c_->Prop}(I:Inv X pz σ H s)(e:H a=some (.ins C dx fs))(c:Cls X.K C)(n:lv X.K C f)(hl:fs.length<1000)(ry:bH y u)(h:∀s',Inv X pz σ (aY H a (.ins C dx (putF f y fs))) s'->Q () s'):x_ (E_ X.prog X.w) A (setAttr (.ref a) f u) Q E s:=by
 obtain⟨mA,O,r,wi,_,ho⟩:=vN I.hok e;have hz:(fs.map (·.1)).length<=sizeLine:=by rw[l_,Qaa];omega
 refine Po I.kIn O c.sa c.po n.taker c.hd wi hz fun h' O' sb=>h _ ?_;have hd:∃o,h'.get? dx=some o:=let⟨o,_,_,e',_⟩:=O'.ns;⟨o,e'⟩;refine I.write (x:=a) (e:=dx) (by rw[e];exact True.intro) (.inr ho) (fun b q hb z=>(sb.2 b hb).trans z) hd ?_;refine⟨by rw[bT O.ne];exact ho,?_,O.ne,O'.obj,_,O'.ns,fun g=>?_,fun g hg=>?_⟩
 .have:=J8 f y fs;omega
 .show dL ((putF f y fs).lookup g) (if g=f then some u else mA g);rw[J9];by_cases q:g=f
  .rw[if_pos q,if_pos q];exact ry
  .rw[if_neg q,if_neg q];exact r g
 .by_cases q:g=f
  .rw[q];exact(B6 f y fs).1
  .refine(B6 f y fs).2 g (wi g fun z=>hg ?_);show(if g=f then some u else mA g)=none;rw[if_neg q];exact z
theorem Inv.made(I:Inv X pz σ H s):Inv X pz σ (aY (aY H s.heap.objs.size (.own (s.heap.objs.size+1))) (s.heap.objs.size+1) (.ins C s.heap.objs.size []))
  { s with heap:=(s.heap.push W.emptyDict).push (W.instObj C s.heap.objs.size) }:=by
 have e1:(s.heap.push W.emptyDict).get? s.heap.objs.size=some W.emptyDict:=B_ s.heap rfl;have e2:((s.heap.push W.emptyDict).push (W.instObj C s.heap.objs.size)).get? (s.heap.objs.size+1)=some (W.instObj C s.heap.objs.size):=by have:=B_ (s.heap.push W.emptyDict) (o:=W.instObj C s.heap.objs.size) rfl;rwa[QbX]at this
 have e3:(s.heap.push W.emptyDict).Ns s.heap.objs.size (fun _=>none):=⟨W.emptyDict,#[],_,e1,rfl,(fun e he=>absurd he (by simp)),fun _=>rfl⟩
 have I1:=I.laid (a:=s.heap.objs.size) (o:=.own (s.heap.objs.size+1)) (h':=s.heap.push W.emptyDict) (t':=s.toks) (fun b u q=>i_ _ q) (r_ _) ⟨_,e1⟩;refine I1.laid (a:=s.heap.objs.size+1) (o:=.ins C s.heap.objs.size []) (t':=s.toks) (fun b u q=>i_ _ q) (QcA (QbX _ _)) ?_;have ne:s.heap.objs.size≠s.heap.objs.size+1:=S_ (Qa1 _);refine⟨by rw[bT ne,cV],Qaf _,ne,e2,fun _=>none,(QeJ e3).at fun o q=>i_ _ q,fun _=>True.intro,fun y hy=>absurd rfl hy⟩
theorem Pf{prog:H_}{w:Z_}{env:Env}{e:Expr}{f:Str}{pos:Pos}{s:c_}{Q:a_->c_->Prop}(hb:Qa9 e f env (eval e env)=eval e env)(h:x_ (E_ prog w) A (eval e env) (fun o s₁=>x_ (E_ prog w) A (getAttr o f true) Q E s₁) E s):x_ (E_ prog w) A (eval (.Attribute e f pos) env) Q E s:=Attribute_any_ h (by rw[arm_eval_Attribute,hb])
end
def Ej(K:W.Frag)(ta:TE)(f:Str):TE:=fun σ H Q=>ta σ H fun x H1=>∃a C dx fs v,x=.ref a/\H1 a=some (.ins C dx fs)/\Cls K C/\lv K C f/\fs.lookup f=some v/\Q v H1
def Er(K:W.Frag)(ta tv:TE)(f:Str):TS:=fun D σ H=>tv σ H fun y H1=>ta σ H1 fun x H2=>∃a C dx fs,x=.ref a/\H2 a=some (.ins C dx fs)/\Cls K C/\lv K C f/\fs.length<1000 /\D.nx σ (aY H2 a (.ins C dx (putF f y fs)))
section
variable{o value:Expr}{f:Str}{pos' tpos:Pos}{tv:TE}
theorem MM(he:PE X e ta)(hb:Qa9 e f X.env (eval e X.env)=eval e X.env):PE X (.Attribute e f pos) (Ej X.K ta f):=by intro pz s σ H Q I h;refine Pf hb (bR (he pz s σ H _ I h) fun u s1 ⟨x,H1,I1,rx,a,C,dx,fs,v,ex,ea,c,n,l,q⟩=>?_);subst ex;obtain rfl:u=Value.ref a:=rx;exact Tl I1 ea c n l fun u' s2 I2 ru=>⟨v,H1,I2,ru,q⟩
theorem M1(ha:PE X o ta)(hv:PE X value tv)(hs:Qb5 value (some (.Attribute o f pos')) pos.line X.env=pure false):PS X (.Assign [.Attribute o f pos'] value pos) (Er X.K ta tv f):=by intro pz s σ H D I h;refine QcI (bR (hv pz s σ H _ I h) fun u s1 ⟨y,H1,I1,ry,q⟩=>bR (ha pz s1 σ H1 _ I1 q) fun ov s2 ⟨x,H2,I2,rx,a,C,dx,fs,ex,ea,c,n,l,q2⟩=>?_) hs;subst ex;obtain rfl:ov=Value.ref a:=rx;exact T7 I2 ea c n l ry fun s3 I3=>⟨σ,_,I3,q2⟩
theorem Kb{pl:Sem Bool}{m:Str}{apos:Pos}{args:List Expr}{pz:List (Addr×Obj)}{s:c_}{σ:St}{H:Hp}{Q:a_->c_->Prop}{te:TE}(he:PE X e te)(I:Inv X pz σ H s)(h:te σ H fun x H1=>∃a C dx fs g,x=.ref a/\H1 a=some (.ins C dx fs)/\Cls X.K C/\Meth X.K C m g/\fs.lookup m=none /\∀s1,Inv X pz σ H1 s1->x_ (E_ X.prog X.w) X.A (QeK pos (.ref g) [.ref a] (backTo pos (h_ args X.env)) (Qdf pos (QbY [] X.env))) Q X.xe s1)(ht:eval (.Call (.Attribute e m apos) args [] pos) X.env=(do
   let ov <-eval e X.env
   QdJ apos.atName
   let(f,first) <-Qcz [ov] (QdC ov m pl)
   QeK pos f first (backTo pos (h_ args X.env)) (Qdf pos (QbY [] X.env)))):x_ (E_ X.prog X.w) X.A (eval (.Call (.Attribute e m apos) args [] pos) X.env) Q X.xe s:=by refine W.methodCall_KW (pl:=pl) (bR (he pz s σ H _ I h) fun u s1 ⟨x,H1,I1,rx,a,C,dx,fs,g,ex,ea,c,k,l,q⟩=>?_) ht;subst ex;obtain rfl:u=Value.ref a:=rx;exact Tn I1 ea c k l (q s1 I1)
end
section
variable{Q:a_->c_->Prop}{c:a_}{b:Bool}
inductive TyOf(K:W.Frag)(H:Hp):V->a_->Prop where
 |non:TyOf K H .non (.type "NoneType")
 |bl (x:Bool):TyOf K H (.bl x) (.type "bool")
 |int (i:Int):TyOf K H (.int i) (.type "int")
 |str (x:Str):TyOf K H (.str x) (.type "str")
 |flt (x:UInt64):TyOf K H (.flt x) (.type "float")
 |lst {a:Addr} {xs:List V} (e:H a=some (.lst xs)):TyOf K H (.ref a) (.type "list")
 |frz {a:Addr} {o:Obj} {xs:List V} (e:H a=some (.frz o (.lst xs))):TyOf K H (.ref a) (.type "list")
 |tup {a:Addr} {xs:List V} (e:H a=some (.tup xs)):TyOf K H (.ref a) (.type "tuple")
 |dK {a:Addr} {kvs:List (bJ×V)} (e:H a=some (.dK kvs)):TyOf K H (.ref a) (.type "dict")
 |dT {a:Addr} {kvs:List (List bJ×V)} (e:H a=some (.dT kvs)):TyOf K H (.ref a) (.type "dict")
 | ins {a C dx:Addr} {fs:List (Str × V)} (e:H a=some (.ins C dx fs)) (cl:Cls K C) (ha:W.findIn K (.ref C) "__class__" = some (some (.builtin "object.__class__")))
   (hn:W.specialIn K (.builtin "object.__class__") "__get__" = some (some (.builtin "getset_descriptor.__get__"))) (htk:W.takesIn K (.builtin "object.__class__")=some true)
   (hm:W.mroIn K C (.type "object")=some true):TyOf K H (.ref a) (.ref C)
theorem SD{x:V}{u t:a_}(I:Inv X pz σ H s)(rx:bH x u)(ty:TyOf X.K H x t)(e:W.kitOne X.K t c=some b)(h:∀tk,Q (.bool b) { s with toks:=tk }):x_ (E_ X.prog X.w) A (call (.builtin "isinstance") [u,c]) Q E s:=by cases ty with
|non=>cases(show u=Value.none from rx);exact W.kia_one W.kitx_none I.kIn True.intro e (fun z=>nomatch z) h
|bl y=>cases(show u=Value.bool y from rx);exact W.kia_one W.kitx_bool I.kIn True.intro e (fun z=>nomatch z) h
|int i=>obtain⟨t,q⟩:=(show ∃t,u=Value.int i t from rx);cases q;exact W.kia_one W.kitx_int I.kIn True.intro e (fun z=>nomatch z) h
|str y=>obtain⟨t,q⟩:=(show ∃t,u=Value.str y t from rx);cases q;exact W.kia_one W.kitx_str I.kIn True.intro e (fun z=>nomatch z) h
|flt y=>obtain⟨t,q⟩:=(show ∃t,u=Value.float y t from rx);cases q;exact W.kia_one W.kitx_float I.kIn True.intro e (fun z=>nomatch z) h
|@lst a xs ea=>
  cases(show u=Value.ref a from rx);obtain⟨_,_,n,_,h1⟩:=(show cY X.prog X.w H s.heap a (.lst xs)from I.hok a _ ea)
  exact W.kia_one W.kitx_list I.kIn ⟨_,h1,rfl⟩ e (fun z=>nomatch z) h
|@frz a ob xs ea=>
  cases(show u=Value.ref a from rx);obtain⟨_,_,_,n,_,h1⟩:=(show cY X.prog X.w H s.heap a (.frz ob (.lst xs))from I.hok a _ ea)
  exact W.kia_one W.kitx_list I.kIn ⟨_,h1,rfl⟩ e (fun z=>nomatch z) h
|@tup a xs ea=>
  cases(show u=Value.ref a from rx);obtain⟨_,_,_,p,_⟩:=(show cY X.prog X.w H s.heap a (.tup xs)from I.hok a _ ea)
  obtain⟨o,h1,h2,_⟩:=p;exact W.kia_one W.kitx_tuple I.kIn ⟨o,h1,h2⟩ e (fun z=>nomatch z) h
|@dK a kvs ea=>
  cases(show u=Value.ref a from rx);obtain⟨_,_,vs,_,p⟩:=(show cY X.prog X.w H s.heap a (.dK kvs)from I.hok a _ ea)
  obtain⟨o,es,ep,h1,h2,_⟩:=p;exact W.kia_one W.kitx_dict I.kIn ⟨o,h1,h2.1⟩ e (fun z=>nomatch z) h
|@dT a kvs ea=>
  cases(show u=Value.ref a from rx);obtain⟨_,_,xs,_,o,es,ep,h1,h2,_⟩:=(show cY X.prog X.w H s.heap a (.dT kvs)from I.hok a _ ea)
  exact W.kia_one W.kitx_dict I.kIn ⟨o,h1,h2.1⟩ e (fun z=>nomatch z) h
|@ins a C dx fs ea cl ha hn htk hm=>cases(show u=Value.ref a from rx);obtain⟨mA,O,_⟩:=vN I.hok ea;obtain⟨od,J,_⟩:=O.look;exact W.kia_one (W.kitx_own (cl.get _) cl.hd ha hn htk hm) I.kIn J e (fun z=>nomatch z) h
end
structure Room(k:Nat)(A:Qag):Prop where
 hd:A.handled=none
 dp:A.depth+3*k+5<recursionLimit
 un:A.units+16*k+200<Qbx
 gd:A.guards=some []
theorem Room.mono{j k:Nat}{A:Qag}(r:Room k A)(h:j<=k):Room j A:=⟨r.hd,by have:=r.dp;omega,by have:=r.un;omega,r.gd⟩
theorem Room.deeper{k:Nat}{A:Qag}(r:Room (k+1) A)(env:Env):Room k (A.deeper env):=⟨r.hd,by have:=r.dp;show A.depth+1+3*k+5<_;omega,by have:=r.un;show A.units+3+16*k+200<_;omega,r.gd⟩
theorem Tr{A:Qag}{C:Addr}{us:List a_}{kw:List (Str×a_)}:(A.under (.builtin "type.__call__" ⟨.ref C::us,kw⟩)).depth=A.depth+1:=by first|rfl|simp[QdK,Code.weight,Code.isCreation,Qf5,Code.isCaller,Code.frames,QeL,guardIds]
theorem Ts{A:Qag}{C:Addr}{us:List a_}{kw:List (Str×a_)}:(A.under (.builtin "type.__call__" ⟨.ref C::us,kw⟩)).units=A.units+1:=by first|rfl|simp[QdK,Code.cUnits,Code.frames,QeL]
theorem Room.make{k:Nat}{A:Qag}(r:Room (k+1) A)(C:Addr)(us:List a_)(kw:List (Str×a_)):Room k (A.under (.builtin "type.__call__" ⟨.ref C::us,kw⟩)):=⟨r.hd,by have:=r.dp;rw[Tr];omega,by have:=r.un;rw[Ts];omega,(by have:=r.gd;first|exact this|(simp[QdK,Qf5,guardIds];exact this))⟩
theorem Room.depth{k:Nat}{A:Qag}(r:Room k A):A.depth<recursionLimit:=by have:=r.dp;omega
theorem Room.units{k:Nat}{A:Qag}(r:Room k A):A.units+64<Qbx:=by have:=r.un;omega
def on:TA:=fun _ H Q=>Q [] H
def Ax(ta:TE)(tr:TA):TA:=fun σ H Q=>ta σ H fun x H1=>tr σ H1 fun xs H2=>Q (x::xs) H2
variable{t:TA}{es:List Expr}
theorem lB:PA X [] on:=fun _ _ _ _ H Q I h=>Calls.spliced_nil ⟨[],H,I,.nil,h⟩
theorem jt(ha:PE X e te)(hr:PA X es t)(hs:h_ (e::es) X.env=(false,eval e X.env)::h_ es X.env:=by rfl):PA X (e::es) (Ax te t):=by intro pos pz s σ H Q I h;rw[hs];show x_ _ _ (spliced ((false,eval e X.env)::backTo pos (h_ es X.env))) _ _ s;refine Calls.spliced_cons (bR (ha pz s σ H _ I h) fun u s1 ⟨x,H1,I1,r1,q1⟩=>?_);exact bR (hr pos pz s1 σ H1 _ I1 q1) fun us s2 ⟨xs,H2,I2,r2,q2⟩=>⟨x::xs,H2,I2,.cons r1 r2,q2⟩
def Eb(t:TA):TE:=fun σ H Q=>t σ H fun xs H1=>xs.length<=sizeLine/\∀p,H1 p=none->Q (.ref p) (aY H1 p (.tup xs))
def Ef(t:TA):TE:=fun σ H Q=>t σ H fun xs H1=>xs.length<=sizeLine/\∀p,H1 p=none->Q (.ref p) (aY H1 p (.lst xs))
theorem MT{x1}(h:PA X es t):PE X (.Tuple es x1 pos) (Eb t):=by intro pz s σ H Q I hq;refine wpAny_Tuple_spliced (bR (h pos pz s σ H _ I hq) fun us s1 ⟨xs,H1,I1,r,z,q⟩=>⟨by rw[<-r.length];exact z,?_⟩);have hf:H1 s1.heap.objs.size=none:=I1.hok.fresh (r_ _);refine⟨.ref s1.heap.objs.size,aY H1 s1.heap.objs.size (.tup xs),I1.laid (t':=s1.toks) (fun b u e=>i_ _ e) (r_ _) ?_,rfl,q _ hf⟩;exact⟨z,us,r,⟨_,B_ _ rfl,rfl,_,rfl⟩,_,B_ _ rfl,rfl⟩
theorem MP(h:PA X es t):PE X (.List es pos) (Ef t):=by intro pz s σ H Q I hq;refine wpAny_List_spliced (bR (h pos pz s σ H _ I hq) fun us s1 ⟨xs,H1,I1,r,z,q⟩=>⟨by rw[<-r.length];exact z,?_⟩);have hf:H1 s1.heap.objs.size=none:=I1.hok.fresh (r_ _);refine⟨.ref s1.heap.objs.size,aY H1 s1.heap.objs.size (.lst xs),I1.laid (t':=s1.toks) (fun b u e=>i_ _ e) (r_ _) ?_,rfl,q _ hf⟩;exact⟨z,us,0,r,B_ _ rfl⟩
abbrev Sp:=List V->Hp->VK->XK->Prop
abbrev jJ:=List Env->Hp->c_->XK->a_->c_->Prop
structure Env0(P:H_)(w:Z_)(K:W.Frag)(mg:Str->Option a_)(base:Heap)(A:Qag)(outer:List Env)(s:c_)(H:Hp):Prop where
 frames:A.frames=some outer
 mod:Mod K mg base
 bs:∀b o,base.get? b=some o->s.heap.get? b=some o/\H b=none
 bsz:base.objs.size<=s.heap.objs.size
 funs:s.heap.FunFrames base outer
 frf:∀b∈dh outer,H b=none
 hok:HOk P w H s.heap
 bare:Qcy s.gens
def CE(outer:List Env)(P:H_)(w:Z_)(H:Hp)(s:c_)(Q:VK)(u:a_)(s':c_):Prop:=∃v H',s'.os=s.os/\Qcy s'.gens/\Un (dh outer) [] H H' s.heap s'.heap/\HOk P w H' s'.heap/\bH v u/\Q v H'
def CR(CX:jJ)(outer:List Env)(P:H_)(w:Z_)(H:Hp)(s:c_)(Q:VK)(E:XK)(r:Qfv)(s':c_):Prop:=match r with
|.ok (.ret u)=>CE outer P w H s Q u s'
|.ok _=>False
|.error e=>CX outer H s E e s'
structure FnOk(P:H_)(w:Z_)(K:W.Frag)(mg:Str->Option a_)(base:Heap)(CX:jJ)(k:Nat)(f:Addr)(fd:QaE)(ps:List Str)(sp:Sp):Prop where
 len:∀vs H Q E,sp vs H Q E->vs.length=ps.length
 run:∀(A:Qag)(outer:List Env)(s:c_)(H:Hp)(args:Args)(us:List a_)(vs:List V)(Q:VK)(E:XK),Room k A->Env0 P w K mg base A outer s H->QeM s fd args (ps.zip us)->aP vs us->sp vs H Q E ->QcS (E_ P w) A (.call (.ref f) args) (CR CX outer P w H s Q E) s
theorem FnOk.mono{P:H_}{w:Z_}{K:W.Frag}{mg:Str->Option a_}{base:Heap}{CX:jJ}{j k:Nat}{f:Addr}{fd:QaE}{ps:List Str}{sp:Sp}(F:FnOk P w K mg base CX j f fd ps sp)(h:j<=k):FnOk P w K mg base CX k f fd ps sp:=⟨F.len,fun A outer s H args us vs Q E hr=>F.run A outer s H args us vs Q E (hr.mono h)⟩
theorem FnOk.imp{P:H_}{w:Z_}{K:W.Frag}{mg:Str->Option a_}{base:Heap}{CX:jJ}{k:Nat}{f:Addr}{fd:QaE}{ps:List Str}{sp U:Sp}(F:FnOk P w K mg base CX k f fd ps sp)(h:∀vs H Q E,U vs H Q E->sp vs H Q E):FnOk P w K mg base CX k f fd ps U:=⟨fun vs H Q E q=>F.len vs H Q E (h _ _ _ _ q),fun A outer s H args us vs Q E hr he hb hv hs=>F.run A outer s H args us vs Q E hr he hb hv (h _ _ _ _ hs)⟩
theorem Env0.make{P:H_}{w:Z_}{K:W.Frag}{mg:Str->Option a_}{base:Heap}{A:Qag}{outer:List Env}{s:c_}{H:Hp}(e:Env0 P w K mg base A outer s H)(C:Addr)(us:List a_)(kw:List (Str×a_)):Env0 P w K mg base (A.under (.builtin "type.__call__" ⟨.ref C::us,kw⟩)) outer s H:=⟨by first|exact e.frames|(simpa[QdK,Code.envs,QeL,pushEnvs]using e.frames),e.mod,e.bs,e.bsz,e.funs,e.frf,e.hok,e.bare⟩
section
variable{s':c_}
theorem Inv.env0(I:Inv X pz σ H s):Env0 X.prog X.w X.K X.mg X.base X.A X.stack s H:=⟨I.ok.frames,I.ok.mod,I.bs,L_ I.ok.bsz I.sz,I.stack,I.stkFree,I.hok,I.bare⟩
theorem Inv.after{Q:VK}{u:a_}(I:Inv X pz σ H s)(h:CE X.stack X.prog X.w H s Q u s'):EP X pz σ Q u s':=by obtain⟨v,H',os,bare,un,hok,r,q⟩:=h;obtain⟨hh,g,d,t,U⟩:=s';obtain rfl:U=s.os:=os;exact⟨v,H',I.call (h':=hh) (g':=g) (d':=d) (t':=t) (ch:=[]) un hok bare (fun b z=>absurd z (by simp)),r,q⟩
end
def Mz(sp:Sp)(dvs:List V)(E:XK)(t:TA):TE:=fun σ H Q=>t σ H fun vs H1=>sp (vs++dvs) H1 Q E
def Fl(C:Addr)(sp:Sp)(dvs:List V)(E:XK)(t:TA):TE:=fun σ H Q=>t σ H fun vs H1=>∀x dx,H1 x=none->H1 dx=none->dx≠x ->sp (.ref x::(vs++dvs)) (aY (aY H1 dx (.own x)) x (.ins C dx [])) (fun v H2=>v=.non/\Q (.ref x) H2) E
def g5(K:W.Frag)(fd:QaE)(ps:List Str)(ds:List a_):Prop:=∀(s:c_)(us:List a_),K.In s.heap->(us++ds).length=ps.length->QeM s fd ⟨us,[]⟩ (ps.zip (us++ds))
theorem g5.all{K:W.Frag}{fd:QaE}{ps:List Str}(h:∀us:List a_,us.length=ps.length->QbN fd ⟨us,[]⟩=pure (ps.zip us)):g5 K fd ps []:=fun s us _ hl=>by rw[W_]at hl ⊢;exact .of_eq (h us hl)
def pv(CX:jJ)(X:Cx)(E:XK):Prop:=∀(pz:List (Addr×Obj))(σ:St)(H:Hp)(s:c_)(e:a_)(s':c_),Inv X pz σ H s->CX X.stack H s E e s'->X.xe e s'
variable{p:Pos}
section
variable{CX:jJ}{k:Nat}{fd:QaE}{ps:List Str}{sp:Sp}{dvs:List V}{ds:List a_}{E:XK}{x m:Str}{apos:Pos}{o:Expr}
theorem FU{pz:List (Addr×Obj)}{σ:St}{H:Hp}{s:c_}{Q:VK}{us:List a_}{vs:List V}(F:FnOk X.prog X.w X.K X.mg X.base CX k f fd ps sp)(hr:Room k X.A)(hb:g5 X.K fd ps ds)(hd:aP dvs ds)(hx:pv CX X E)(I:Inv X pz σ H s)(r:aP vs us)(h:sp (vs++dvs) H Q E):x_ (E_ X.prog X.w) X.A (call (.ref f) us) (EP X pz σ Q) X.xe s:=by
 have r2:aP (vs++dvs) (us++ds):=r.append hd;have hl:(us++ds).length=ps.length:=by rw[<-r2.length];exact F.len _ _ _ _ h
 refine Qco (QcB (F.run X.A X.stack s H ⟨us,[]⟩ (us++ds) (vs++dvs) Q E hr I.env0 (hb s us I.kIn hl) r2 h) fun r s' hq=>?_);cases r with
|error e=>exact hx pz σ H s e s' I hq
|ok fl=>cases fl with
 |ret u=>exact I.after hq
 |next=>exact Qai hq
 |brk=>exact Qai hq
 |cont=>exact Qai hq
theorem HF(F:FnOk X.prog X.w X.K X.mg X.base CX k f fd ps sp)(hr:Room k X.A)(hg:Gl X x)(hm:X.mg x=some (.ref f))(hk:W.keepIn X.K (.ref f)=true)(hb:g5 X.K fd ps ds)(hd:aP dvs ds)(hx:pv CX X E)(ha:PA X (e::es) t)(U:(x==("__debug__" : Str))=false:=by decide)(he:h_ (e::es) X.env=(false,eval e X.env)::h_ es X.env:=by rfl)(hpl:(backTo pos (h_ es X.env)).any (·.1)=false:=by rfl):PE X (.Call (.Name x p) (e::es) [] pos) (Mz sp dvs E t):=by intro pz s σ H Q I h;refine QaL (j9 I hg hm ?_ U);refine W.callWith_K (h₀:=X.base) I.ok.mod.kin hk (bR (ha pos pz s σ H _ I h) fun us s1 ⟨vs,H1,I1,r,q⟩=>⟨I1.kIn,?_⟩) he hpl;exact FU F hr hb hd hx I1 r q
structure Mk(K:W.Frag)(C f:Addr):Prop where
 makes:W.makesIn K C=true
 init:W.findIn K (.ref C) "__init__" = some (some (.ref f))
 fn:W.isFn K (.ref f)=true
 kp:W.keepIn K (.ref C)=true
theorem Iu{pz:List (Addr×Obj)}{σ:St}{H:Hp}{s:c_}{Q:VK}{us:List a_}{vs:List V}(M:Mk X.K C f)(F:FnOk X.prog X.w X.K X.mg X.base CX k f fd ps sp)(hr:Room (k+1) X.A)(hb:g5 X.K fd ps ds)(hd:aP dvs ds)(hx:pv CX X E)(I:Inv X pz σ H s)(r:aP vs us)(h:∀x dx,H x=none->H dx=none->dx≠x->sp (.ref x::(vs++dvs)) (aY (aY H dx (.own x)) x (.ins C dx [])) (fun v H2=>v=.non/\Q (.ref x) H2) E):x_ (E_ X.prog X.w) X.A (call (.ref C) us) (EP X pz σ Q) X.xe s:=by
 have hq:=h (s.heap.objs.size+1) s.heap.objs.size (I.hok.fresh (QcU _)) (I.hok.fresh (r_ _)) (S_ (Qa1 _));have I2:=Inv.made (C:=C) I;have r2:aP (V.ref (s.heap.objs.size+1)::(vs++dvs)) (Value.ref (s.heap.objs.size+1)::(us++ds)):=.cons rfl (r.append hd);have hl:(Value.ref (s.heap.objs.size+1)::us++ds).length=ps.length:=by have e:=r2.length;rw[F.len _ _ _ _ hq]at e;exact e.symm
 refine Qco (Rc (f:=f) I.kIn M.makes M.init (beq_iff_eq.mp M.fn) (QcB (F.run _ X.stack _ _ ⟨Value.ref (s.heap.objs.size+1)::us,[]⟩ (Value.ref (s.heap.objs.size+1)::(us++ds)) _ _ E (hr.make C us [])
  (I2.env0.make C us []) (hb _ (Value.ref (s.heap.objs.size+1)::us) I2.kIn hl) r2 hq) fun r s' U=>?_))
 cases r with
|error e=>exact hx pz σ _ _ e s' I2 U
|ok fl=>cases fl with
 |ret u=>obtain⟨v,H',I3,rv,ev,q3⟩:=I2.after U;subst ev;exact⟨rv,⟨V.ref (s.heap.objs.size+1),H',I3,rfl,q3⟩⟩
 |next=>exact Qai U
 |brk=>exact Qai U
 |cont=>exact Qai U
theorem Qg(M:Mk X.K C f)(F:FnOk X.prog X.w X.K X.mg X.base CX k f fd ps sp)(hr:Room (k+1) X.A)(hg:Gl X x)(hm:X.mg x=some (.ref C))(hb:g5 X.K fd ps ds)(hd:aP dvs ds)(hx:pv CX X E)(ha:PA X (e::es) t)(U:(x==("__debug__" : Str))=false:=by decide)(he:h_ (e::es) X.env=(false,eval e X.env)::h_ es X.env:=by rfl)(hpl:(backTo pos (h_ es X.env)).any (·.1)=false:=by rfl):PE X (.Call (.Name x p) (e::es) [] pos) (Fl C sp dvs E t):=by intro pz s σ H Q I h;refine QaL (j9 I hg hm ?_ U);refine W.callWith_K (h₀:=X.base) I.ok.mod.kin M.kp (bR (ha pos pz s σ H _ I h) fun us s1 ⟨vs,H1,I1,r,q⟩=>⟨I1.kIn,?_⟩) he hpl;exact Iu M F hr hb hd hx I1 r q
theorem QQ(M:Mk X.K C f)(F:FnOk X.prog X.w X.K X.mg X.base CX k f fd ps sp)(hr:Room (k+1) X.A)(hg:Gl X x)(hm:X.mg x=some (.ref C))(hb:g5 X.K fd ps ds)(hd:aP dvs ds)(hx:pv CX X E)(U:(x==("__debug__" : Str))=false:=by decide):PE X (.Call (.Name x p) [] [] pos) (Fl C sp dvs E on):=by intro pz s σ H Q I h;refine QaL (j9 I hg hm ?_ U);exact W.callWith_K0 I.kIn M.kp (Iu (us:=[]) M F hr hb hd hx I .nil h)
end
structure FnScope(N P:List Str)(sc:Qct):Prop where
 kind:sc.kind=.function
 co:sc.isCoroutine=false
 gen:sc.isGenerator=false
 nd:N.Nodup
 pre:N.take P.length=P
 par:∀x∈P,sc.names.lookup x=some .local\/sc.names.lookup x=some .cell
 nofree:∀y∈sc.names,y.2≠.free
theorem Ji{kindOf:Str->Option QbZ}{x:Str}:∀{binds:List (Str×a_)}{m:Str->Option a_},(∀v,(x,v)∉binds)->Qfw kindOf binds m x=m x
|[],_,_=>rfl
|(n,v)::r,m,h=>by
  unfold Qfw;rw[Ji fun w hw=>h w (k_ _ hw)];split
  .have:x≠n:=by rintro rfl;exact h v j_
   simp[this]
  .rfl
theorem Jg{kindOf:Str->Option QbZ}{x:Str}:∀{binds:List (Str×a_)}{m:Str->Option a_},(∀v,(x,v)∉binds)->Qfx kindOf binds m x=m x
|[],_,_=>rfl
|(n,v)::r,m,h=>by
  unfold Qfx;rw[Jg fun w hw=>h w (k_ _ hw)];split
  .rfl
  .have:x≠n:=by rintro rfl;exact h v j_
   simp[this]
theorem Jh{kindOf:Str->Option QbZ}{x:Str}{v:a_}:∀{P:List Str}{vs:List a_}{i:Nat}{m:Str->Option a_},P.Nodup->P[i]? = some x->vs[i]? = some v->kindOf x=some .local ->Qfw kindOf (P.zip vs) m x=some v
|[],_,_,_,_,h,_,_=>by simp at h
|_::_,[],_,_,_,_,h,_=>by simp at h
|p::P,w::vs,0,m,nd,h1,h2,hk=>by simp at h1 h2;subst h1;subst h2;show Qfw kindOf ((p,w)::P.zip vs) m p=_;unfold Qfw;rw[Ji fun v hv=>(Qa5.mp nd).1 (QdY hv).1,if_pos hk];simp
|p::P,w::vs,i+1,m,nd,h1,h2,hk=>by show Qfw kindOf ((p,w)::P.zip vs) m x=_;unfold Qfw;exact Jh (i:=i) (Qa5.mp nd).2 (by simpa using h1) (by simpa using h2) hk
theorem Jf{kindOf:Str->Option QbZ}{x:Str}{v:a_}:∀{P:List Str}{vs:List a_}{i:Nat}{m:Str->Option a_},P.Nodup->P[i]? = some x->vs[i]? = some v->kindOf x≠some .local ->Qfx kindOf (P.zip vs) m x=some v
|[],_,_,_,_,h,_,_=>by simp at h
|_::_,[],_,_,_,_,h,_=>by simp at h
|p::P,w::vs,0,m,nd,h1,h2,hk=>by simp at h1 h2;subst h1;subst h2;show Qfx kindOf ((p,w)::P.zip vs) m p=_;unfold Qfx;rw[Jg fun v hv=>(Qa5.mp nd).1 (QdY hv).1,if_neg hk];simp
|p::P,w::vs,i+1,m,nd,h1,h2,hk=>by show Qfx kindOf ((p,w)::P.zip vs) m x=_;unfold Qfx;exact Jf (i:=i) (Qa5.mp nd).2 (by simpa using h1) (by simpa using h2) hk
def cz(N:List Str)(vs:List V):St:=vs.map some++p_ (N.length-vs.length) none
def cw(CX:jJ)(P:H_)(w:Z_)(K:W.Frag)(mg:Str->Option a_)(base:Heap)(N:List Str)(qual:Str)(scope:Qct)(f:Addr)(cd:a_)(A:Qag)(outer:List Env)(s:c_)(H:Hp)(E:XK):Cx where
 prog:=P
 w:=w
 K:=K
 mg:=mg
 base:=base
 A:=A.deeper (QbJ qual scope s.heap.objs.size f cd)
 N:=N
 s₀:=s
 H₀:=H
 env:=QbJ qual scope s.heap.objs.size f cd
 outer:=outer
 stack:=QbJ qual scope s.heap.objs.size f cd::outer
 ex:=[]
 calm:=true
 fn:=fun _=>true
 pn:=[]
 xe:=fun e s'=>x_ (E_ P w) (A.deeper (QbJ qual scope s.heap.objs.size f cd)) (leaving (QbJ qual scope s.heap.objs.size f cd) e) (fun _ s''=>CX outer H s E e s'') (fun e' s''=>CX outer H s E e' s'') s'
theorem ID{sc:Qct}{n:Nat}{x:Str}(h:sc.names.lookup x=some .cell):∃c,(cellsFrom n sc.names []).lookup x=some c:=by have q:=W.cellsFrom_some sc.names n [] (.inl h);exact Option.isSome_iff_exists.mp q
theorem Sz{CX:jJ}{P:H_}{w:Z_}{K:W.Frag}{mg:Str->Option a_}{base:Heap}{N ps:List Str}{qual:Str}{scope:Qct}{f:Addr}{cd:a_}{A:Qag}{outer:List Env}{s s1:c_}{H:Hp}{E:XK}{us:List a_}{vs:List V}(S:FnScope N ps scope)(hd:A.handled=none)(e0:Env0 P w K mg base A outer s H)(hl:vs.length=ps.length)(r:aP vs us)(x:InCallC s s.heap.objs.size (Qfw (QbJ qual scope s.heap.objs.size f cd).kindOf (ps.zip us) fun _=>none) (cellsFrom (s.heap.objs.size+1) scope.names []) (Qfx (QbJ qual scope s.heap.objs.size f cd).kindOf (ps.zip us) fun _=>none) s1):Inv (cw CX P w K mg base N qual scope f cd A outer s H E) [] (cz N vs) H s1:=by
 have hpl:ps.length<=N.length:=by have:=congrArg Qb0 S.pre;rw[QaO]at this;omega
 obtain⟨h1,tk,rfl,hk⟩:=x.done;have U:∀b:Addr,b∉(cw CX P w K mg base N qual scope f cd A outer s H E).ex:=fun b z=>absurd (show b∈([]:List Addr)from z) (by simp);refine⟨⟨e0.mod,S.kind,rfl,rfl,r_ _,fun y z c h1 h2=>?_,fun y hy=>?_,fun y c _ h=>?_,fun _=>hd,Around.frames_deeper e0.frames,.inr ⟨rfl,rfl⟩,fun b z=>absurd z (U b),e0.bs,e0.bsz,fun b _ _=>U b,fun b z=>absurd z (U b),e0.funs,e0.frf⟩,rfl,e0.bare,Un.kept hk,⟨_,x.toInCall.ns,fun i y v h1 h2 h3=>?_⟩,fun y c h=>⟨_,x.cell y c h⟩,e0.hok.fresh (r_ _),fun y c h=>?_,fun p hp=>absurd (show p∈([]:List (Addr×Obj))from hp) (by simp),e0.hok.kept hk,?_⟩
 .exact name_of_addr x.apart (QaW h1) (QaW h2)
 .have hy:scope.names.lookup y=some .cell\/scope.names.lookup y=some .free:=hy;rcases hy with hy|hy
  .exact ID hy
  .exact absurd rfl (S.nofree _ (QaW hy))
 .exact QeH (x.above y c (QaW h))
 .have hi:i<vs.length:=by
   unfold cz at h2;by_cases hi:i<vs.length
   .exact hi
   .rw[Qbd (by simpa using hi)]at h2;rw[QaP]at h2;split at h2 <;> cases h2
  have ha:vs[i]? = some v:=by unfold cz at h2;rw[Qaj (by simpa using hi),u_]at h2;cases e:vs[i]? with
  |none=>rw[e]at h2;cases h2
  |some a=>rw[e]at h2;cases h2;rfl
  obtain⟨u,hu,rv⟩:=r.get ha;have hp:ps[i]? = some y:=by rw[<-S.pre,List.getElem?_take_of_lt (by omega)];exact h1
  have Y:ps.Nodup:=by rw[<-S.pre];exact S.nd.sublist (List.take_sublist _ _)
  refine⟨u,rv,?_⟩;rcases S.par y (Qd8 hp)with k|k
  .exact .inl ⟨k,Jh Y hp hu k⟩
  .obtain⟨c,e⟩:=ID (n:=s.heap.objs.size+1) k;refine .inr ⟨.inl k,c,e,?_⟩;have q:=x.cell y c e;rw[Jf Y hp hu (by show scope.names.lookup y≠_;rw[k];decide)]at q;exact q
 .exact e0.hok.fresh (QeH (x.above y c (QaW h)))
 .unfold cz;show _=N.length;rw[Y_,l_,Qbh];omega
theorem qw{CX:jJ}{P:H_}{w:Z_}{K:W.Frag}{mg:Str->Option a_}{base:Heap}{k:Nat}{f:Addr}{name qual:Str}{params:Arguments}{body:List Stmt}{scope:Qct}{dV kV doc pm cdv ct oc:a_}{an od:Option Addr}{osl:Array (Option a_)}{N ps:List Str}{sp:Sp}(lk:K.lookup f=some ⟨oc,od,.func (W.fnOf name qual params body scope dV kV doc pm an cdv ct),osl⟩)(Cl:W.codeIn K cdv qual=true)(S:FnScope N ps scope)(len:∀vs H Q E,sp vs H Q E->vs.length=ps.length)(U:∀(A:Qag)(outer:List Env)(s:c_)(H:Hp)(vs:List V)(Q:VK)(E:XK),Room k (A.deeper (QbJ qual scope s.heap.objs.size f cdv))->sp vs H Q E ->∃t,eD (cw CX P w K mg base N qual scope f cdv A outer s H E) body t/\t { nx:=fun _ H'=>Q .non H',rt:=Q } (cz N vs) H):FnOk P w K mg base CX (k+1) f (W.fnOf name qual params body scope dV kV doc pm an cdv ct) ps sp:=by
 refine⟨len,fun A outer s H args us vs Q E hr e0 hb r Z=>?_⟩;have hl:=len _ _ _ _ Z;have KX:K.In s.heap:=e0.mod.kin.keeps fun b o e=>(e0.bs b o e).1;have BT:s.heap.NoLimit:=e0.mod.nolimit.keeps fun b o e=>(e0.bs b o e).1;have Y:∀y∈ps.zip us,scope.names.lookup y.1=some .local\/(scope.names.lookup y.1=some .cell/\((cellsFrom (s.heap.objs.size+1) scope.names []).lookup y.1).isSome=true):=fun⟨n,v⟩ hy=>by
  rcases S.par n (QdY hy).1 with q|q
  .exact .inl q
  .exact .inr ⟨q,W.cellsFrom_some _ _ _ (.inl q)⟩
 refine codeAny_call_function hr.depth (KX _ _ lk) rfl S.co S.gen rfl (W.codeRec_of KX Cl) (hb _ _ _ _ ?_);refine wpAny_newFunctionEnv_cells S.kind Y fun env he s1 x=>?_;subst he;refine⟨BT.keeps x.toInCall.keep,codeAny_func ?_⟩;obtain⟨t,ht,hq⟩:=U A outer s H vs Q E (hr.deeper _) Z;have I:Inv (cw CX P w K mg base N qual scope f cdv A outer s H E) [] (cz N vs) H s1:=Sz S hr.hd e0 hl r x;refine Qan (ht [] s1 (cz N vs) H _ I hq) (fun fl s' hs=>?_) fun e s' hs=>hs;have fin:∀{σ':St}{H':Hp}{v:V}{u:a_},Inv (cw CX P w K mg base N qual scope f cdv A outer s H E) [] σ' H' s'->bH v u->Q v H'->CE outer P w H s Q u s':=fun{σ' H' v u} J rv q=>⟨v,H',J.os,J.bare,J.base,J.hok,rv,q⟩
 cases fl with
|ret u=>obtain⟨v,σ',H',J,rv,q⟩:=hs;exact fin J rv q
|next=>obtain⟨σ',H',J,q⟩:=hs;exact fin (v:=V.non) (u:=Value.none) J rfl q
|brk=>obtain⟨_,_,_,q⟩:=hs;exact Qai q
|cont=>obtain⟨_,_,_,q⟩:=hs;exact Qai q
section
variable{x:Str}{id T:String}{r:List V->Hp->VK->Prop}
def Aa(r:List V->Hp->VK->Prop)(t:TA):TE:=fun σ H Q=>t σ H fun vs H1=>r vs H1 Q
theorem rJ(hc:gL X (.builtin id) r)(hg:Gl X x)(hm:X.mg x=none)(hv:Qb4 x=some (.builtin id))(ha:PA X (e::es) t)(hn:x≠"__name__" := by decide)(U:(x==("__debug__" : Str))=false:=by decide)(he:h_ (e::es) X.env=(false,eval e X.env)::h_ es X.env:=by rfl)(hpl:(backTo pos (h_ es X.env)).any (·.1)=false:=by rfl):PE X (.Call (.Name x p) (e::es) [] pos) (Aa r t):=by intro pz s σ H Q I h;refine QaL (qO I hg hm hv ?_ hn U);exact PyProof.Rows.callWith_builtin1 (bR (ha pos pz s σ H _ I h) fun us s1 ⟨vs,H1,I1,r1,q1⟩=>hc pz s1 σ H1 vs us Q I1 r1 q1) he hpl
theorem pS(hc:gL X (.type T) r)(hg:Gl X x)(hm:X.mg x=none)(hv:Qb4 x=some (.type T))(ha:PA X (e::es) t)(hn:x≠"__name__" := by decide)(U:(x==("__debug__" : Str))=false:=by decide)(he:h_ (e::es) X.env=(false,eval e X.env)::h_ es X.env:=by rfl)(hpl:(backTo pos (h_ es X.env)).any (·.1)=false:=by rfl):PE X (.Call (.Name x p) (e::es) [] pos) (Aa r t):=by intro pz s σ H Q I h;refine QaL (qO I hg hm hv ?_ hn U);exact QbS (bR (ha pos pz s σ H _ I h) fun us s1 ⟨vs,H1,I1,r1,q1⟩=>hc pz s1 σ H1 vs us Q I1 r1 q1) he hpl
end
end L2
namespace HT
open PySem PyProof.Rows
def dq:List Int->List Int->Bool
|[],[]=>false
|[],_::_=>true
|_::_,[]=>false
|x::xs,y::ys=>if x=y then dq xs ys else decide (x<y)
theorem fX(x y:Int)(xs ys:List Int):dq (x::xs) (y::ys)=if x=y then dq xs ys else decide (x<y):=rfl
theorem UY:dq [] []=false:=rfl
theorem U5(y:Int)(ys:List Int):dq [] (y::ys)=true:=rfl
theorem U4(x:Int)(xs:List Int):dq (x::xs) []=false:=rfl
theorem QV(A:Qag)(s:c_)(a:Int)(t:Tok)(c:Int)(u:Tok):∃e,Qes A s (.int a t) (.int c u) e/\(e=true↔a=c):=⟨(a==c),Qdg a t c u,by simp⟩
theorem RH(A:Qag)(s:c_)(a:Int)(t:Tok)(c:Int)(u:Tok)(prog:H_)(w:Z_)(E:a_->c_->Prop)(Q:a_->c_->Prop)(h:Q (.bool (decide (a<c))) s):x_ (E_ prog w) A (richCompare .Lt (.int a t) (.int c u)) Q E s:=(PyProof.Rows.lt_int h:x_ (E_ prog w) A (Qak .Lt (.int a t) (.int c u)) Q E s)
section
open PySem.SeqAt
open PySem.AutoSeq1 (wpAny_loadPart')
open PySem.MeetsSeq PySem.MeetsSeq2 PySem.MeetsSeq3
theorem U9(l b:Addr)(items U:Array a_)(n n2:Nat)(dd Id:Option Addr)(sl KK:Array (Option a_))(ns ms:List Int)(hi:Qcl items.toList ns)(hj:Qcl U.toList ms) :
  Meets (QdL.«tuple.__lt__» ⟨[.ref l,.ref b],[]⟩)
   (fun _ R s=>s.heap.get? l=some { cls:=.type "tuple",dict:=dd,data:=.seq items n,slots:=sl }/\s.heap.get? b=some { cls:=.type "tuple",dict:=Id,data:=.seq U n2,slots:=KK } /\R (.ok (.ret (.bool (dq ns ms)))) s):=
 .of_wp fun prog w A R s h=>by
  obtain⟨hp,g,d,tk,os⟩:=s;obtain⟨hl,hb,h⟩:=h;have f2:=AutoSeq1.sub_tuple_tuple;have z1:items.size=ns.length:=by rw[<-hi.length];simp
  have z2:U.size=ms.length:=by rw[<-hj.length];simp
  wp_walk using QbO hl,QbO hb,wpAny_forIn_list _ (fun rest b s'=>b.1=none/\s'=⟨hp,g,d,tk,os⟩/\∃(vs ws:List a_)(Y ms':List Int),rest=vs.zip ws /\Qcl vs Y/\Qcl ws ms'/\Y.length+U.size=ms'.length+items.size/\R (.ok (.ret (.bool (dq Y ms')))) ⟨hp,g,d,tk,os⟩) _
  case turn=>
   rintro⟨y,x⟩ rest b s' ⟨hb',rfl,vs,ws,Y,ms',hz,Cl,Z,hlen,hR⟩
   cases Cl with
  |nil=>rw[List.zip_nil_left]at hz;cases hz
  |cons a t hvi'=>cases Z with
   |nil=>rw[List.zip_nil_right]at hz;cases hz
   |cons c u hwi'=>
     rw[Qet]at hz;injection hz with hyx hrest
     injection hyx with hy hx
     subst hy hx;rw[fX]at hR;simp only[K_]at hlen;obtain⟨e,he,BT⟩:=QV A.in1 ⟨hp,g,d,tk,os⟩ a t c u;refine b_ (he prog w _ _ ?_);cases e with
    |true=>
      rw[if_pos (BT.mp rfl)]at hR
      wp_walk
      exact⟨rfl,rfl,_,_,_,_,hrest,hvi',hwi',by omega,hR⟩
    |false=>
      rw[if_neg (fun q=>absurd (BT.mpr q) d_)]at hR;have IO:=RH A.in1 ⟨hp,g,d,tk,os⟩ a t c u prog w
      wp_walk using IO
      exact⟨_,rfl,by simpa using hR⟩
  case fin=>
   rintro⟨b1,b2⟩ s' ⟨hb',rfl,vs,ws,Y,ms',hz,Cl,Z,hlen,hR⟩
   simp only at hb';subst hb';have hv:dq Y ms'=decide (items.size<U.size):=by cases Cl with
   |nil=>cases Z with
    |nil=>simp only[Qbo]at hlen;rw[UY];exact(decide_eq_false (by omega)).symm
    |cons c u hw=>simp only[Qbo,K_]at hlen;rw[U5];exact(decide_eq_true (by omega)).symm
   |cons a t hv=>cases Z with
    |nil=>simp only[Qbo,K_]at hlen;rw[U4];exact(decide_eq_false (by omega)).symm
    |cons c u hw=>rw[Qet]at hz;cases hz
   rw[hv]at hR
   wp_walk
   exact⟨_,rfl,by simpa[Qe2]using hR⟩
  case h=>exact⟨rfl,rfl,items.toList,U.toList,ns,ms,rfl,hi,hj,by omega,h⟩
end
section
variable{prog:H_}{w:Z_}{A:Qag}{E:a_->c_->Prop}{s:c_}
theorem iW{l b:Addr}{items U:Array a_}{ns ms:List Int}{Q:a_->c_->Prop}(hl:Qfd s.heap l items)(hb:Qfd s.heap b U)(hi:Qcl items.toList ns)(hj:Qcl U.toList ms)(hu:A.units<Qbx)(h:Q (.bool (dq ns ms)) s):x_ (E_ prog w) A (Qak .Lt (.ref l) (.ref b)) Q E s:=by
 obtain⟨⟨cls,dd,data,sl⟩,ho,hc,n,hd⟩:=id hl;obtain⟨⟨Id,Z,Cl,BT⟩,ho2,Y,n2,hd2⟩:=id hb;simp only at hc hd Y hd2;subst hc hd Y hd2;exact richCompare_meets_room (op:=.Lt) ⟨_,ho,rfl⟩ ⟨_,ho2,rfl⟩ PySem.F.slot_tuple_lt PySem.F.entry_tuple_lt (PySem.F.args_tuple_lt_2 _ _) (U9 l b items U n n2 dd Z sl BT ns ms hi hj)
  ⟨ho,ho2,show Value.bool (dq ns ms)≠Value.notImplemented/\Q (.bool (dq ns ms)) s from⟨(fun x=>nomatch x),h⟩⟩ hu
theorem ma{t b:Addr}{vs ws:List a_}{Q:a_->c_->Prop}(ht:Qfd s.heap t vs.toArray)(hb:Qfd s.heap b ws.toArray)(hv:vs≠[])(h1:ws=[]->Q (.ref t) s)(h2:ws≠[]->Q (.ref s.heap.objs.size) { s with heap:=s.heap.push { cls:=.type "tuple",data:=.seq (vs++ws).toArray } })(hsz:vs.length+ws.length<=sizeLine):x_ (E_ prog w) A (Qbc .Add (.ref t) (.ref b)) Q E s:=by
 obtain⟨⟨cls,dd,data,sl⟩,ho,hc,n,hd⟩:=id ht;obtain⟨⟨Cl,U,BT,Y⟩,ho2,Z,n2,hd2⟩:=id hb;simp only at hc hd Z hd2;subst hc hd Z hd2;have e:vs.toArray++ws.toArray=(vs++ws).toArray:=by simp
 by_cases hw:ws=[]
 .exact QdM ⟨_,ho,rfl⟩ ⟨_,ho2,rfl⟩ QdD Qen QcC Qcu (Qcf _ _)
   (tuple_addW1 t b vs.toArray ws.toArray n n2 dd U sl Y (by simpa using hv) (by simp[hw])) ⟨ho,ho2,h1 hw⟩
 .refine QdM ⟨_,ho,rfl⟩ ⟨_,ho2,rfl⟩ QdD Qen QcC Qcu (Qcf _ _)
   (tuple_addW2 t b vs.toArray ws.toArray n n2 dd U sl Y (by simpa using hv) (by simpa using hw) (by rw[q_,q_];exact hsz)) ⟨ho,ho2,?_⟩
  rw[e];exact h2 hw
def sIx(n d:Nat):Option Int->Nat
|none=>d
|some v=>if v<0 then(v+(n:Int)).toNat else min v.toNat n
theorem ie(n d:Nat):sIx n d none=d:=rfl
theorem jf(n d k:Nat):sIx n d (some (k:Int))=min k n:=by show(if (k:Int)<0 then((k:Int)+(n:Int)).toNat else min (k:Int).toNat n)=min k n;rw[if_neg (by omega),QaR]
theorem N5(n d:Nat)(hd:d<=n)(o:Option Int):sIx n d o<=n:=by cases o with
|none=>exact hd
|some v=>
  show(if v<0 then(v+(n:Int)).toNat else min v.toNat n)<=n;by_cases hv:v<0
  .rw[if_pos hv];omega
  .rw[if_neg hv];exact Nat.min_le_right _ _
theorem GJ(v:Int)(n d:Nat):(if v<0 then max (v+(n:Int)) 0 else min v (n:Int))=((sIx n d (some v):Nat):Int):=by
 show(if v<0 then max (v+(n:Int)) 0 else min v (n:Int))=(((if v<0 then(v+(n:Int)).toNat else min v.toNat n):Nat):Int)
 by_cases hv:v<0
 .simp only[if_pos hv];omega
 .simp only[if_neg hv];omega
theorem TY(lo hi:Option Int)(n:Nat):Qca lo hi 1 (n:Int)=(((sIx n 0 lo:Nat):Int),((sIx n n hi:Nat):Int)):=by
 have h1:¬ ((1:Int)<0):=by omega
 unfold Qca;simp only[h1,if_false];refine Qf9 ?_ ?_
 .cases lo with
 |none=>rfl
 |some v=>exact GJ v n 0
 .cases hi with
 |none=>rfl
 |some v=>exact GJ v n n
theorem TK(i j:Nat):Qbj (i:Int) (j:Int) 1=j-i:=by
 unfold Qbj;have h1:(1:Int)>0:=by omega
 simp only[h1,if_true,Int.ediv_one];split <;> omega
theorem J0{v:a_}{o:Option Int}{Q:Option Int->c_->Prop}(p:Qeu v o)(h:Q o s):x_ (E_ prog w) A (Qfh v) Q E s:=by cases p with
|none=>exact slicePart_none h
|int i t=>exact slicePart_int h
theorem Vm{sl:Addr}{vl vu:a_}{lo hi:Option Int}{n:Nat}{Q:Int×Int×Nat->c_->Prop}(hs:s.heap.IsSliceOf sl vl vu .none)(pl:Qeu vl lo)(pu:Qeu vu hi)(h:Q (((sIx n 0 lo:Nat):Int),1,sIx n n hi-sIx n 0 lo) s):x_ (E_ prog w) A (Qdh (.ref sl) (pure (n:Int))) Q E s:=by obtain⟨os,Y,Z,U⟩:=id hs;unfold Qdh QfQ;refine b_ (b_ (QaI Y U (x:=vl) rfl (b_ (QaI Y U (x:=vu) rfl (b_ (QaI Y U (x:=.none) rfl (n_ ?_)))))));refine b_ (slicePart_none ?_);show x_ _ _ (if ((1:Int)==0)=true then _ else _) _ _ s;rw[if_neg (by decide)];refine b_ (J0 pl (b_ (J0 pu (b_ (n_ ?_)))));show x_ _ _ (match Qca lo hi 1 (n:Int)with|(lo,hi)=>pure (lo,(1:Int),Qbj lo hi 1)) _ _ s;rw[TY lo hi n];show x_ _ _ (pure (((sIx n 0 lo:Nat):Int),(1:Int),Qbj ((sIx n 0 lo:Nat):Int) ((sIx n n hi:Nat):Int) 1)) _ _ s;rw[TK];exact n_ h
theorem Sa(xs:Array a_)(i k:Nat):((e_ k).filterMap fun(m:Nat)=>xs[((i:Int)+(m:Int)*1).toNat]?).toArray=((xs.toList.drop i).take k).toArray:=by
 have e:(fun(m:Nat)=>xs[((i:Int)+(m:Int)*1).toNat]?)=fun m=>xs[i+m]?:=by
  funext m;have:((i:Int)+(m:Int)*1).toNat=i+m:=by omega
  rw[this]
 rw[e];have:=pick_run xs i k;rw[List.filterMap_map]at this;have e2:((fun x=>xs[x]?)∘fun x=>i+x)=fun m=>xs[i+m]?:=rfl;rw[e2]at this;rw[this]
theorem eh{t sl:Addr}{items:Array a_}{vl vu:a_}{lo hi:Option Int}{Q:a_->c_->Prop}(ht:Qfd s.heap t items)(hs:s.heap.IsSliceOf sl vl vu .none)(pl:Qeu vl lo)(pu:Qeu vu hi)(hw:¬ (sIx items.size 0 lo=0/\sIx items.size items.size hi=items.size))(h:Q (.ref s.heap.objs.size) { s with heap:=s.heap.push { cls:=.type "tuple",data:=.seq ((items.toList.drop (sIx items.size 0 lo)).take (sIx items.size items.size hi-sIx items.size 0 lo)).toArray } })(hsz:items.size<=sizeLine):x_ (E_ prog w) A (QeN (.ref t) (.ref sl)) Q E s:=by
 have U:sizeOk (.seq ((items.toList.drop (sIx items.size 0 lo)).take (sIx items.size items.size hi-sIx items.size 0 lo)).toArray):=by show((items.toList.drop (sIx items.size 0 lo)).take (sIx items.size items.size hi-sIx items.size 0 lo)).toArray.size<=sizeLine;rw[q_,QaO,QcL,Qbz];omega
 have hj:sIx items.size items.size hi<=items.size:=N5 _ _ (r_ _) hi;obtain⟨os,BT,Cl,Id⟩:=id hs;have Y:s.TypeIs (.ref sl) "slice" := ⟨os,BT,Cl⟩
 unfold QeN
 try with_reducible refine Qa8 ?_
 first|refine b_ (n_ ?_)|skip
 refine b_ (wpAny_sequenceKey ht.typeIs (by decide) ?_);refine b_ (Qcv (name:=C_ "__getitem__") ht.typeIs Qa6
  (QcM Qa6 ht.typeIs entry_tuple_getitem ?_ (args_tuple_getitem _ _)))
 show x_ _ _ (Qfy (.ref t) >>= _) _ _ s;refine b_ (tupleItemsOf_ ht ?_);refine b_ (wpAny_typeOf Y ?_);rw[if_pos (by decide)];refine b_ (Vm hs pl pu ?_);have Z:¬ ((((sIx items.size 0 lo:Nat):Int)==0&&(1:Int)==1&&(sIx items.size items.size hi-sIx items.size 0 lo)==items.size)=true):=by intro q;rw[M_,M_]at q;have q1:((sIx items.size 0 lo:Nat):Int)=0:=QaQ q.1.1;have q2:sIx items.size items.size hi-sIx items.size 0 lo=items.size:=QaQ q.2;exact hw ⟨by omega,by omega⟩
 show x_ _ _ (if (((sIx items.size 0 lo:Nat):Int)==0&&(1:Int)==1&&(sIx items.size items.size hi-sIx items.size 0 lo)==items.size)=true then _ else _) _ _ s;rw[if_neg Z,Sa]
 first
  |exact b_ (m:=Qbu _) (QaS (n_ ⟨_,rfl,n_ h⟩) U)
  |exact b_ (m:=Qbu _) (QaS (b_ (n_ (n_ ⟨_,rfl,n_ h⟩))) U)
  |exact b_ (b_ (m:=Qbu _) (QaS (n_ (n_ ⟨_,rfl,n_ h⟩)) U))
  |exact b_ (b_ (m:=Qbu _) (QaS (n_ ⟨_,rfl,n_ h⟩) U))
end
end HT
namespace L2
open PySem PySem.Spec PyProof.Rows
abbrev TO:=St->Hp->(Option Int->Hp->Prop)->Prop
def PO(X:Cx)(e:Option Expr)(t:TO):Prop:=∀(pz:List (Addr×Obj))(s:c_)(σ:St)(H:Hp)(Q:Option Int->Hp->Prop),Inv X pz σ H s->t σ H Q ->x_ (E_ X.prog X.w) X.A (evalPart e X.env) (fun u s'=>∃o H',Inv X pz σ H' s'/\Qeu u o/\Q o H') X.xe s
def Ps:TO:=fun _ H Q=>Q none H
def MC(t:TE):TO:=fun σ H Q=>t σ H fun x H1=>∃i,x=.int i/\Q (some i) H1
theorem To{ns:List Int}:∀{us:List a_},aP (ns.map V.int) us->Qcl us ns:=by induction ns with
|nil=>intro us r;rw[Qb6]at r;cases r;exact .nil
|cons n ns ih=>intro us r;rw[o_]at r;cases r with
 |cons r1 r2=>obtain⟨t,e⟩:=r1;subst e;exact .cons n t (ih r2)
variable{X:Cx}{e:Expr}{pos:Pos}
section
variable{te:TE}{lo hi:Option Expr}{tl th:TO}{p2:Pos}
theorem PH:PO X none Ps:=by intro pz s σ H Q I h;rw[evalPart_none];exact n_ ⟨none,H,I,.none,h⟩
theorem PK(h:PE X e te):PO X (some e) (MC te):=by intro pz s σ H Q I hw;rw[evalPart_some];refine bR (h pz s σ H _ I hw) fun u s1 ⟨x,H1,I1,r1,q1⟩=>?_;obtain⟨i,rfl,q⟩:=q1;obtain⟨t,rfl⟩:=r1;exact⟨some i,H1,I1,.int i t,q⟩
def nr(X:Cx)(r:V->Option Int->Option Int->Hp->VK->Prop):Prop:=∀(pz:List (Addr×Obj))(s:c_)(σ:St)(H:Hp)(x:V)(v vl vu:a_)(lo hi:Option Int)(sl:Addr)(Q:VK),Inv X pz σ H s->bH x v->s.heap.IsSliceOf sl vl vu .none->Qeu vl lo->Qeu vu hi->r x lo hi H Q ->∃T id,typeLookup (.type T) "__getitem__" = pure (some (.builtin id))/\s.TypeIs v T/\x_ (E_ X.prog X.w) X.A (QeN v (.ref sl)) (EP X pz σ Q) X.xe s
theorem nr.or{r r':V->Option Int->Option Int->Hp->VK->Prop}(h:nr X r)(h':nr X r'):nr X (fun x lo hi H Q=>r x lo hi H Q\/r' x lo hi H Q):=by
 intro pz s σ H x v vl vu lo hi sl Q I rx hs pl pu q;rcases q with q|q
 .exact h pz s σ H x v vl vu lo hi sl Q I rx hs pl pu q
 .exact h' pz s σ H x v vl vu lo hi sl Q I rx hs pl pu q
def WH(r:V->Option Int->Option Int->Hp->VK->Prop)(te:TE)(tl th:TO):TE:=fun σ H Q=>te σ H fun x H1=>tl σ H1 fun l H2=>th σ H2 fun u H3=>r x l u H3 Q
theorem QR{r:V->Option Int->Option Int->Hp->VK->Prop}(hr:nr X r)(he:PE X e te)(hl:PO X lo tl)(hu:PO X hi th):PE X (.Subscript e (.Slice lo hi none p2) pos) (WH r te tl th):=by intro pz s σ H Q I h;refine Subscript_ (bR (he pz s σ H _ I h) fun v s1 ⟨x,H1,I1,r1,q1⟩=>?_);refine wpAny_Slice (bR (hl pz s1 σ H1 _ I1 q1) fun vl s2 ⟨l,H2,I2,pl,q2⟩=>bR (hu pz s2 σ H2 _ I2 q2) fun vu s3 ⟨u,H3,I3,pu,q3⟩=>?_);rw[evalPart_none];refine n_ ?_;have I4:Inv X pz σ H3 { s3 with heap:=s3.heap.push { cls:=.type "slice",data:=.fields #[vl,vu,.none] } }:=I3.kept (t':=s3.toks) fun b ob q=>i_ _ q;obtain⟨T,id,hT,ht,hg⟩:=hr pz { s3 with heap:=s3.heap.push { cls:=.type "slice",data:=.fields #[vl,vu,.none] } } σ H3 x v vl vu l u s3.heap.objs.size Q I4 r1 (Heap.IsSliceOf.new ..) pl pu q3;show x_ (E_ X.prog X.w) X.A (subscriptTail e (.Slice lo hi none p2) v (.ref s3.heap.objs.size)) (EP X pz σ Q) X.xe { s3 with heap:=s3.heap.push { cls:=.type "slice",data:=.fields #[vl,vu,.none] } };exact tail_any (ops:=[.ref s3.heap.objs.size,v]) ht hT hg (by with_unfolding_all rfl)
def jG(xs:List V)(lo hi:Option Int):List V:=(xs.drop (HT.sIx xs.length 0 lo)).take (HT.sIx xs.length xs.length hi-HT.sIx xs.length 0 lo)
theorem Kf(xs:List V)(lo hi:Option Int):(jG xs lo hi).length<=xs.length:=by unfold jG;rw[QaO,QcL];omega
def Es(K:W.Frag):V->Option Int->Option Int->Hp->VK->Prop:=fun x lo hi H Q=>∃a xs,x=.ref a/\dG K H a xs /\¬ (HT.sIx xs.length 0 lo=0/\HT.sIx xs.length xs.length hi=xs.length)/\∀p,H p=none->Q (.ref p) (aY H p (.tup (jG xs lo hi)))
theorem Oj:nr X (Es X.K):=by
 intro pz s σ H x v vl vu lo hi sl Q I rx hs pl pu h;obtain⟨a,xs,rfl,hx,hw,q⟩:=h;cases rx;obtain⟨its,r,ht,hz⟩:=I.tuple hx;have hlen:its.toArray.size=xs.length:=by rw[q_];exact r.length.symm
 refine⟨"tuple",_,Qa6.lookup,ht.typeIs,?_⟩;refine HT.eh ht hs pl pu (by rw[hlen];exact hw) ?_ (by rw[hlen];exact hz);rw[hlen];refine⟨.ref s.heap.objs.size,_,I.laid (t':=s.toks) (o:=.tup (jG xs lo hi)) (fun b ob q=>i_ _ q) (r_ _) ?_,rfl,q _ (I.hok.fresh (r_ _))⟩;exact⟨L_ (Kf xs lo hi) hz,_,(r.drop (HT.sIx xs.length 0 lo)).take (HT.sIx xs.length xs.length hi-HT.sIx xs.length 0 lo),Qf3 _ _,_,B_ _ rfl,rfl⟩
def AA(K:W.Frag):R2:=fun x y H Q=>∃a b xs ys,x=.ref a/\y=.ref b/\dG K H a xs/\dG K H b ys/\xs≠[]/\xs.length+ys.length<=sizeLine /\(ys=[]->Q (.ref a) H)/\(ys≠[]->∀p,H p=none->Q (.ref p) (aY H p (.tup (xs++ys))))
theorem aP.nil_iff{xs:List V}{us:List a_}(r:aP xs us):us=[]↔xs=[]:=by cases r with
|nil=>simp
|cons _ _=>simp
theorem Hz:cM X (Qbc .Add) (AA X.K):=by intro pz s σ H x y v u Q I rx ry h;obtain⟨a,b,xs,ys,rfl,rfl,ha,hb,hx,hz,q1,q2⟩:=h;cases rx;cases ry;obtain⟨its,r1,p1,_⟩:=I.tuple ha;obtain⟨U,r2,p2,_⟩:=I.tuple hb;refine HT.ma p1 p2 (fun z=>hx (r1.nil_iff.mp z)) (fun z=>⟨.ref a,H,I,rfl,q1 (r2.nil_iff.mp z)⟩) (fun z=>?_) (by rw[<-r1.length,<-r2.length];exact hz);refine⟨.ref s.heap.objs.size,_,I.laid (t':=s.toks) (o:=.tup (xs++ys)) (fun b ob q=>i_ _ q) (r_ _) ?_,rfl,q2 (fun w=>z (r2.nil_iff.mpr w)) _ (I.hok.fresh (r_ _))⟩;exact⟨by rw[Y_];exact hz,_,r1.append r2,Qf3 _ _,_,B_ _ rfl,rfl⟩
end
def jE(n:Nat)(i:Int):Option Nat:=if 0<=i then(if i<n then some i.toNat else none)else if-(n:Int)<=i then some (i+n).toNat else none
def iH{α:Type}(xs:List α)(i:Int):Option α:=(jE xs.length i).bind fun j=>xs[j]?
theorem GN{n:Nat}{i:Int}{j:Nat}(h:jE n i=some j):seqIndex? i n=some j/\j<n/\-(n:Int)<=i/\i<n:=by
 unfold jE at h;by_cases h0:0<=i
 .rw[if_pos h0]at h;by_cases h1:i<n
  .rw[if_pos h1]at h;have e:i.toNat=j:=J_ h;exact⟨by rw[Qff h0 h1,e],by omega,by omega,h1⟩
  .rw[if_neg h1]at h;cases h
 .rw[if_neg h0]at h;by_cases h1 : -(n:Int)<=i
  .rw[if_pos h1]at h;have e:(i+n).toNat=j:=J_ h;exact⟨by rw[seqIndex_neg (by omega) h1,e],by omega,h1,by omega⟩
  .rw[if_neg h1]at h;cases h
theorem Bo{α:Type}{xs:List α}{i:Int}{v:α}(h:iH xs i=some v):∃j,seqIndex? i xs.length=some j/\xs[j]? = some v/\j<xs.length/\-(xs.length:Int)<=i/\i<xs.length:=by unfold iH at h;cases e:jE xs.length i with
|none=>rw[e]at h;cases h
|some j=>rw[e]at h;obtain⟨h1,h2,h3,h4⟩:=GN e;exact⟨j,h1,h,h2,h3,h4⟩
def Bn(b:Expr):Prop:=∀o i,subscripted b false o i=operate [o,i] (QeN o i)
def kG(X:Cx)(r:R2):Prop:=∀(value slice:Expr)(pz:List (Addr×Obj))(s:c_)(σ:St)(H:Hp)(x y:V)(v u:a_)(Q:VK),Inv X pz σ H s->bH x v->bH y u->r x y H Q ->subscripted slice false v u=operate [v,u] (QeN v u)->x_ (E_ X.prog X.w) X.A (subscriptTail value slice v u) (EP X pz σ Q) X.xe s
def lj(X:Cx)(id:String)(r:V->List V->Hp->VK->Prop):Prop:=∀(pz:List (Addr×Obj))(s:c_)(σ:St)(H:Hp)(x:V)(xs:List V)(v:a_)(us:List a_)(Q:VK),Inv X pz σ H s->bH x v->aP xs us->r x xs H Q ->x_ (E_ X.prog X.w) X.A (call (.builtin id) (v::us)) (EP X pz σ Q) X.xe s
section
variable{a b:Expr}{ta tb:TE}
theorem kG.or{r r':R2}(h:kG X r)(h':kG X r'):kG X (fun x y H Q=>r x y H Q\/r' x y H Q):=by
 intro value slice pz s σ H x y v u Q I rx ry q hs;rcases q with q|q
 .exact h value slice pz s σ H x y v u Q I rx ry q hs
 .exact h' value slice pz s σ H x y v u Q I rx ry q hs
theorem VR{r:R2}(hr:kG X r)(ha:PE X a ta)(hb:PE X b tb)(hs:Bn b):PE X (.Subscript a b pos) (sI r ta tb):=by intro pz s σ H Q I h;exact Subscript_ (oU ha hb I h fun v u s2 x y H2 I2 rx ry q=>hr a b pz s2 σ H2 x y v u Q I2 rx ry q (hs _ _))
def sT(K:W.Frag):R2:=fun x y H Q=>∃p xs i v,x=.ref p/\y=.int i/\cX K H p xs/\iH xs i=some v/\Q v H
def sR(K:W.Frag):R2:=fun x y H Q=>∃p xs i v,x=.ref p/\y=.int i/\dG K H p xs/\iH xs i=some v/\Q v H
def sS:R2:=fun x y H Q=>∃z i c,x=.str z/\y=.int i/\z.length<=sizeLine/\iH z.cps.toList i=some c/\Q (.str ⟨#[c]⟩) H
theorem O8:kG X (sT X.K):=by
 intro value slice pz s σ H x y v u Q I rx ry h hs;obtain⟨p,xs,i,z,rfl,rfl,hq,he,q⟩:=h;cases rx;obtain⟨t,rfl⟩:=ry;obtain⟨its,r,pl,hz⟩:=I.list hq;obtain⟨j,h1,h2,h3,h4,h5⟩:=Bo he;obtain⟨w,ew,U⟩:=r.get h2;have hl:=r.length;have hn:=pw;have fin:EP X pz σ Q w s:=⟨z,H,I,U,q⟩
 by_cases h0:0<=i
 .have hj:i.toNat=j:=by rw[Qff h0 h5]at h1;exact J_ h1
  exact item_listR pl.isList h0 (by omega) (by rw[hj];simpa using ew) fin hs
 .have hj:(i+(its.toArray.size:Int)).toNat=j:=by rw[seqIndex_neg (by omega) h4]at h1;rw[q_,<-hl];exact J_ h1
  exact QdN (x:=w) pl.isList.typeIs QeO.lookup
   (wpAny_getItem_list_neg (Q:=fun r s'=>r=w/\EP X pz σ Q r s') pl.isList (by omega) (by rw[q_] <;> omega) (by omega) (by rw[hj];simpa using ew) ⟨rfl,fin⟩) hs
theorem Nw:kG X (sR X.K):=by
 intro value slice pz s σ H x y v u Q I rx ry h hs;obtain⟨p,xs,i,z,rfl,rfl,hq,he,q⟩:=h;cases rx;obtain⟨t,rfl⟩:=ry;obtain⟨its,r,pl,hz⟩:=I.tuple hq;obtain⟨j,h1,h2,h3,h4,h5⟩:=Bo he;obtain⟨w,ew,U⟩:=r.get h2;have hl:=r.length;have hn:=pw;have fin:EP X pz σ Q w s:=⟨z,H,I,U,q⟩
 exact QdN (x:=w) pl.typeIs Qa6.lookup
  (getItem_tuple (j:=j) (Q:=fun r s'=>r=w/\EP X pz σ Q r s') pl (by omega) (by omega) (by rw[q_,<-hl];exact h1) (by simpa using ew) ⟨rfl,fin⟩) hs
theorem Nv:kG X sS:=by
 intro value slice pz s σ H x y v u Q I rx ry h hs;obtain⟨z,i,c,rfl,rfl,hz,he,q⟩:=h;obtain⟨t,rfl⟩:=rx;obtain⟨t',rfl⟩:=ry;obtain⟨j,h1,h2,h3,h4,h5⟩:=Bo he;have hl:z.cps.toList.length=z.length:=by simp[Str.length]
 rw[hl]at h1 h4 h5;have hn:=pw;exact tail_any (typeIs_str s z t) slot_str_getitem.lookup (getItem_str (c:=c) (by have e1:decide (i < -(2^63:Int))=false:=decide_eq_false (by omega);have e2:decide (i>=2^63)=false:=decide_eq_false (by omega);rw[e1,e2,Bool.or_false]) (by rw[h1];simpa using h2) ⟨.str ⟨#[c]⟩,H,I.tok _,⟨_,rfl⟩,q⟩) hs
def Ew(K:W.Frag):R2:=fun x y H Q=>sT K x y H Q\/sR K x y H Q\/sS x y H Q
theorem Nu:kG X (Ew X.K):=O8.or (Nw.or Nv)
theorem Tt(its:List a_)(n j:Nat)(u:a_):QbK (·.setIfInBounds j u) { cls:=.type "list",data:=.seq its.toArray n }={ cls:=.type "list",data:=.seq (its.set j u).toArray n }:=by simp[QbK]
theorem Inv.lst{pz:List (Addr×Obj)}{σ:St}{H:Hp}{s:c_}{p:Addr}{xs:List V}(I:Inv X pz σ H s)(h:H p=some (.lst xs)):∃(its:List a_)(n:Nat),aP xs its/\s.heap.get? p=some { cls:=.type "list",data:=.seq its.toArray n }/\xs.length<=sizeLine:=by obtain⟨z,its,n,r,e⟩:=I.hok p _ h;exact⟨its,n,r,e,z⟩
theorem Inv.lstUpd{pz:List (Addr×Obj)}{σ:St}{H:Hp}{s:c_}{p:Addr}{xs ys:List V}{its its':List a_}{n n':Nat}{f:Obj->Obj}(I:Inv X pz σ H s)(h:H p=some (.lst xs))(ho:s.heap.get? p=some { cls:=.type "list",data:=.seq its.toArray n })(hf:f { cls:=.type "list",data:=.seq its.toArray n }={ cls:=.type "list",data:=.seq its'.toArray n' })(r:aP ys its')(hz:ys.length<=sizeLine)(t:Nat):Inv X pz σ (aY H p (.lst ys)) { s with heap:=s.heap.update p f,toks:=t }:=by
 have e:(s.heap.update p f).get? p=some { cls:=.type "list",data:=.seq its'.toArray n' }:=by rw[Qap f ho (by rw[hf] <;> rfl),hf]
 refine I.write (x:=p) (e:=p) (by rw[h];trivial) (.inl rfl) (fun b u hb q=>(QdO _ _ (Qby hb)).trans q) ⟨_,e⟩ ?_;exact⟨hz,its',n',r,e⟩
def Fy:V->V->V->Hp->(Hp->Prop)->Prop:=fun o i v H Q=>∃p xs k j,o=.ref p/\i=.int k/\H p=some (.lst xs)/\jE xs.length k=some j/\Q (aY H p (.lst (xs.set j v)))
theorem RZ:ir X Fy:=by
 intro pz s σ H o i v ov iv u Q I ro ri rv h;obtain⟨p,xs,k,j,rfl,rfl,hp,hj,q⟩:=h;cases ro;obtain⟨t,rfl⟩:=ri;obtain⟨its,n,r,ho,hz⟩:=I.lst hp;obtain⟨h1,h2,h3,h4⟩:=GN hj;have hl:=r.length;have hn:=pw;have I':Inv X pz σ (aY H p (.lst (xs.set j v))) { s with heap:=s.heap.update p (QbK (·.setIfInBounds j u)) }:=I.lstUpd hp ho (Tt its n j u) (r.set rv j) (by rw[Qfi];exact hz) s.toks;by_cases h0:0<=k
 .have hk:k.toNat=j:=by rw[Qff h0 h4]at h1;exact J_ h1
  exact W.ki_setAt ho h0 (by omega) (by rw[q_,<-hl];exact h4) (by rw[hk];exact⟨_,I',q⟩)
 .have hk:(k+(its.toArray.size:Int)).toNat=j:=by rw[seqIndex_neg (by omega) h3]at h1;rw[q_,<-hl];exact J_ h1
  exact W.ki_setBack ho (by omega) (by rw[q_,<-hl];exact h3) (by omega) (by rw[hk];exact⟨_,I',q⟩)
theorem UU(lo hi:Option Int)(n:Nat):(Qcw lo hi none n).1=((HT.sIx n 0 lo:Nat):Int)/\(Qcw lo hi none n).2.1=((HT.sIx n n hi:Nat):Int)/\(Qcw lo hi none n).2.2=1:=by
 refine⟨?_,?_,rfl⟩
 .cases lo with
 |none=>simp[Qcw,HT.sIx]
 |some i=>
   simp only[Qcw,HT.sIx,QdE,show(1:Int)>0 by decide,if_true];by_cases h:i<0
   .simp only[h,if_true] <;> omega
   .simp only[h,if_false] <;> omega
 .cases hi with
 |none=>simp[Qcw,HT.sIx]
 |some i=>
   simp only[Qcw,HT.sIx,QdE,show(1:Int)>0 by decide,if_true];by_cases h:i<0
   .simp only[h,if_true] <;> omega
   .simp only[h,if_false] <;> omega
theorem UT(its:List a_)(lo hi:Option Int):slicePick its.toArray lo hi none=((its.drop (HT.sIx its.length 0 lo)).take (HT.sIx its.length its.length hi-HT.sIx its.length 0 lo)).toArray:=by obtain⟨h1,h2,h3⟩:=UU lo hi its.toArray.size;unfold slicePick;rw[h1,h2,h3];simp only[sliceRange_one,pick_run,q_] <;> rfl
def Eu(K:W.Frag):V->Option Int->Option Int->Hp->VK->Prop:=fun x lo hi H Q=>∃a xs,x=.ref a/\cX K H a xs/\∀p,H p=none->Q (.ref p) (aY H p (.lst (jG xs lo hi)))
theorem Pp:nr X (Eu X.K):=by intro pz s σ H x v vl vu lo hi sl Q I rx hs pl pu h;obtain⟨a,xs,rfl,hx,q⟩:=h;cases rx;obtain⟨its,r,ht,hz⟩:=I.list hx;have hlen:=r.length;refine⟨"list",_,QeO.lookup,ht.isList.typeIs,?_⟩;refine wpAny_getItem_list_slice ht.isList hs pl pu .none (by simp) ?_ (by rw[q_] <;> omega);rw[UT,<-hlen];refine⟨.ref s.heap.objs.size,_,I.laid (t':=s.toks) (o:=.lst (jG xs lo hi)) (fun b ob q=>i_ _ q) (r_ _) ?_,rfl,q _ (I.hok.fresh (r_ _))⟩;exact⟨L_ (Kf xs lo hi) hz,_,0,(r.drop (HT.sIx xs.length 0 lo)).take (HT.sIx xs.length xs.length hi-HT.sIx xs.length 0 lo),B_ _ rfl⟩
def iJ:V->Bool
|.non=>true
|.bl _=>true
|.int _=>true
|.str _=>true
|_=>false
def il:V->V->Bool
|.non,.non=>true
|.bl a,.bl b=>a==b
|.bl a,.int b=>(if a then 1 else 0)==b
|.int a,.bl b=>a==(if b then 1 else 0)
|.int a,.int b=>a==b
|.str a,.str b=>a==b
|_,_=>false
theorem LV{A:Qag}{s:c_}{y x:V}{u v:a_}(ry:bH y u)(rx:bH x v)(fy:iJ y=true)(fx:iJ x=true):Qes A s u v (il y x):=by cases y with
|non=>cases ry;cases x with
 |non=>cases rx;exact Qfj _
 |bl b=>cases rx;exact SeqAt.EqAt.none_bool b
 |int b=>obtain⟨t,rfl⟩:=rx;exact SeqAt.EqAt.none_int b t
 |str b=>obtain⟨t,rfl⟩:=rx;exact SeqAt.EqAt.none_str b t
 |_=>exact absurd (show false=true from fx) d_
|bl a=>cases ry;cases x with
 |non=>cases rx;exact SeqAt.EqAt.bool_none a
 |bl b=>cases rx;exact SeqAt.EqAt.bool_bool a b
 |int b=>obtain⟨t,rfl⟩:=rx;exact SeqAt.EqAt.bool_int a b t
 |str b=>obtain⟨t,rfl⟩:=rx;exact SeqAt.EqAt.bool_str a b t
 |_=>exact absurd (show false=true from fx) d_
|int a=>obtain⟨t',rfl⟩:=ry;cases x with
 |non=>cases rx;exact SeqAt.EqAt.int_none a t'
 |bl b=>cases rx;exact SeqAt.EqAt.int_bool a t' b
 |int b=>obtain⟨t,rfl⟩:=rx;exact Qdg a t' b t
 |str b=>obtain⟨t,rfl⟩:=rx;exact Qep a t' b t
 |_=>exact absurd (show false=true from fx) d_
|str a=>obtain⟨t',rfl⟩:=ry;cases x with
 |non=>cases rx;exact SeqAt.EqAt.str_none a t'
 |bl b=>cases rx;exact SeqAt.EqAt.str_bool a t' b
 |int b=>obtain⟨t,rfl⟩:=rx;exact Qeq a t' b t
 |str b=>obtain⟨t,rfl⟩:=rx;exact SeqAt.EqAt.str_str a t' b t
 |_=>exact absurd (show false=true from fx) d_
|_=>exact absurd (show false=true from fy) d_
def fB(x:V)(u:a_):Bool:=match u with
|.none=>il .non x
|.bool b=>il (.bl b) x
|.int i _=>il (.int i) x
|.str z _=>il (.str z) x
|_=>false
theorem qV{x y:V}{u:a_}(r:bH y u)(f:iJ y=true):fB x u=il y x:=by cases y with
|non=>cases r;rfl
|bl b=>cases r;rfl
|int i=>obtain⟨t,rfl⟩:=r;rfl
|str z=>obtain⟨t,rfl⟩:=r;rfl
|_=>exact absurd (show false=true from f) d_
theorem rn{x:V}:∀{xs:List V}{us:List a_},aP xs us->xs.all iJ=true->us.any (fB x)=xs.any fun y=>il y x
|_,_,.nil,_=>rfl
|y::xs,u::us,.cons r t,f=>by rw[Qba,M_]at f;rw[QbP,QbP,qV r f.1,rn t f.2]
theorem pO{A:Qag}{s:c_}{x:V}{v:a_}(rx:bH x v)(fx:iJ x=true):∀{xs:List V}{us:List a_},aP xs us->xs.all iJ=true->∀u∈us,Qes A s u v (fB x u)
|_,_,.nil,_=>fun u hu=>by cases hu
|y::xs,u::us,.cons r t,f=>fun u' hu=>by
  rw[Qba,M_]at f;rcases t_.mp hu with rfl|hu
  .rw[qV r f.1];exact LV r rx f.1 fx
  .exact pO rx fx t f.2 u' hu
def Ac(x:V)(xs:List V):Bool:=xs.any fun y=>il y x
def Ex(K:W.Frag)(neg:Bool):R2:=fun x y H Q=>∃p xs,y=.ref p/\(cX K H p xs\/dG K H p xs)/\iJ x=true/\xs.all iJ=true/\Q (.bl (if neg then ! Ac x xs else Ac x xs)) H
theorem S4:cM X (Qak .In) (Ex X.K false):=by
 intro pz s σ H x y v u Q I rx ry h;obtain⟨p,xs,rfl,hq,fx,fs,q⟩:=h;cases ry;rcases hq with hq|hq
 .obtain⟨its,r,pl,hz⟩:=I.list hq;refine SeqAt.in_listAt (fB x) pl.isList (fun w hw=>pO rx fx r fs w (by simpa using hw)) ⟨.bl _,H,I,rfl,?_⟩;rw[show its.toArray.any (fB x)=its.any (fB x)by simp,rn r fs];exact q
 .obtain⟨its,r,pl,hz⟩:=I.tuple hq;refine SeqAt.in_tupleAt (fB x) pl (fun w hw=>pO rx fx r fs w (by simpa using hw)) ⟨.bl _,H,I,rfl,?_⟩;rw[show its.toArray.any (fB x)=its.any (fB x)by simp,rn r fs];exact q
theorem UG:cM X (Qak .NotIn) (Ex X.K true):=by
 intro pz s σ H x y v u Q I rx ry h;obtain⟨p,xs,rfl,hq,fx,fs,q⟩:=h;cases ry;rcases hq with hq|hq
 .obtain⟨its,r,pl,hz⟩:=I.list hq;refine SeqAt.notIn_listAt (fB x) pl.isList (fun w hw=>pO rx fx r fs w (by simpa using hw)) ⟨.bl _,H,I,rfl,?_⟩;rw[show its.toArray.any (fB x)=its.any (fB x)by simp,rn r fs];exact q
 .obtain⟨its,r,pl,hz⟩:=I.tuple hq;refine SeqAt.notIn_tupleAt (fB x) pl (fun w hw=>pO rx fx r fs w (by simpa using hw)) ⟨.bl _,H,I,rfl,?_⟩;rw[show its.toArray.any (fB x)=its.any (fB x)by simp,rn r fs];exact q
theorem UH:cM X (Qak .NotIn) (fun x y H Q=>∃i j,x=.str i/\y=.str j/\Q (.bl (!(!(Qa3 j i 0 j.length 1).isEmpty))) H):=by intro pz s σ H x y v u Q I rx ry h;obtain⟨i,j,rfl,rfl,q⟩:=h;obtain⟨t,rfl⟩:=rx;obtain⟨t',rfl⟩:=ry;exact notIn_str ⟨.bl _,H,I,rfl,q⟩
theorem gL.or{f:a_}{r r':List V->Hp->VK->Prop}(h:gL X f r)(h':gL X f r'):gL X f (fun xs H Q=>r xs H Q\/r' xs H Q):=by
 intro pz s σ H xs us Q I rs q;rcases q with q|q
 .exact h pz s σ H xs us Q I rs q
 .exact h' pz s σ H xs us Q I rs q
theorem UN:gL X (.type "list") (fun xs H Q=>∃p ys,xs=[.ref p]/\(cX X.K H p ys\/dG X.K H p ys)/\∀l,H l=none->Q (.ref l) (aY H l (.lst ys))):=by
 intro pz s σ H xs us Q I r h;obtain⟨p,ys,rfl,hq,q⟩:=h;obtain⟨u,rfl,rx⟩:=jp r;cases rx;have fin:∀(its:List a_),aP ys its->ys.length<=sizeLine->∀(h':Heap)(c':Nat),(∀b o',s.heap.get? b=some o'->h'.get? b=some o') ->h'.get? s.heap.objs.size=some { cls:=.type "list",dict:=none,data:=.seq its.toArray c',slots:=#[] }->EP X pz σ Q (.ref s.heap.objs.size) { s with heap:=h' }:=fun its r' hz h' c' kp e=>⟨.ref s.heap.objs.size,_,I.laid (t':=s.toks) kp (r_ _) (show cY X.prog X.w _ h' _ (.lst ys)from⟨hz,its,c',r',e⟩),rfl,q _ (I.hok.fresh (r_ _))⟩
 rcases hq with hq|hq
 .obtain⟨its,r',pl,hz⟩:=I.list hq;have hlen:=r'.length;obtain⟨o,ho,hc,n,hd⟩:=pl.isList;exact call_list_seq p (.inl rfl) ho hc hd (fun h' c' kp e=>fin its r' hz h' c' kp e) (by simp only[q_] <;> omega)
 .obtain⟨its,r',pl,hz⟩:=I.tuple hq;have hlen:=r'.length;obtain⟨o,ho,hc,n,hd⟩:=pl;exact call_list_seq p (.inr rfl) ho hc hd (fun h' c' kp e=>fin its r' hz h' c' kp e) (by simp only[q_] <;> omega)
theorem UX:gL X (.type "tuple") (fun xs H Q=>∃p ys,xs=[.ref p]/\((cX X.K H p ys/\∀l,H l=none->Q (.ref l) (aY H l (.tup ys)))\/(dG X.K H p ys/\Q (.ref p) H))):=by
 intro pz s σ H xs us Q I r h;obtain⟨p,ys,rfl,h⟩:=h;obtain⟨u,rfl,rx⟩:=jp r;cases rx;rcases h with⟨hq,q⟩|⟨hq,q⟩
 .obtain⟨its,r',pl,hz⟩:=I.list hq;have hlen:=r'.length;refine call_tuple_list pl.isList (fun h' kp=>?_) (by simp only[q_] <;> omega);have I1:Inv X pz σ H { s with heap:=h' }:=I.kept (t':=s.toks) kp;have I2:Inv X pz σ (aY H h'.objs.size (.tup ys)) { s with heap:=h'.push { cls:=.type "tuple",data:=.seq its.toArray } }:=I1.laid (t':=s.toks) (fun b o e=>i_ _ e) (r_ _) (show cY X.prog X.w _ _ _ (.tup ys)from⟨hz,its,r',Qf3 _ _,_,B_ _ rfl,rfl⟩);exact⟨.ref h'.objs.size,_,I2,rfl,q _ (I1.hok.fresh (r_ _))⟩
 .obtain⟨its,r',pl,hz⟩:=I.tuple hq;exact call_tuple_same pl ⟨.ref p,H,I,rfl,q⟩
def qc(K:W.Frag)(T:String)(x:V)(H:Hp):Prop:=match x with
|.str _=>T = "str"
|.int _=>T = "int"
| .ref p=>(T = "list"/\∃xs,cX K H p xs)\/(T = "tuple"/\((∃o,K.lookup p=some o/\o.cls=.type "tuple"/\o.dict=none)\/∃xs,Rd H p (.tup xs))) \/
   (T = "dict"/\((∃kvs,Rd H p (.dK kvs))\/∃kvs,H p=some (.dT kvs)))\/(T = "set"/\∃S n,H p=some (.set S n))
|_=>False
theorem F7{pz:List (Addr×Obj)}{σ:St}{H:Hp}{s:c_}{T:String}{x:V}{v:a_}(I:Inv X pz σ H s)(r:bH x v)(ty:qc X.K T x H):s.TypeIs v T/\∀a,v=.ref a->∃ob,s.heap.get? a=some ob/\ob.dict=none:=by cases x with
|str z=>obtain⟨t,rfl⟩:=r;cases(show T = "str" from ty);exact⟨typeIs_str s z t,fun _ e=>nomatch e⟩
|int i=>obtain⟨t,rfl⟩:=r;cases(show T = "int" from ty);exact⟨Qfz s i t,fun _ e=>nomatch e⟩
|ref p=>
  cases r;rcases ty with⟨rfl,xs,hq⟩|⟨rfl,⟨o,hk,hc,hd⟩|⟨xs,hq⟩⟩|⟨rfl,hk⟩|⟨rfl,S,n,hk⟩
  .obtain⟨its,_,pl,_⟩:=I.list hq;refine⟨pl.isList.typeIs,fun a e=>?_⟩;cases e;obtain⟨o,n,e,c,hd,_⟩:=pl;exact⟨o,e,hd⟩
  .refine⟨⟨o,I.kIn p o hk,hc⟩,fun a e=>?_⟩;cases e;exact⟨o,I.kIn _ o hk,hd⟩
  .obtain⟨_,its,_,⟨o,ho,hc,_⟩,o2,ho2,hd2⟩:=hq.ok I.hok;refine⟨⟨o,ho,hc⟩,fun a e=>?_⟩;cases e;exact⟨o2,ho2,hd2⟩
  .have z:∃o,s.heap.get? p=some o/\o.ExactDict:=by
    rcases hk with⟨kvs,hk⟩|⟨kvs,hk⟩
    .obtain⟨_,_,_,_,o,_,_,e,ex,_⟩:=(show cY X.prog X.w H s.heap p (.dK kvs)from hk.ok I.hok)
     exact⟨o,e,ex⟩
    .obtain⟨_,_,_,_,o,_,_,e,ex,_⟩:=I.hok p _ hk;exact⟨o,e,ex⟩
   obtain⟨o,e,ex⟩:=z;refine⟨⟨o,e,ex.1⟩,fun a e2=>?_⟩;cases e2;exact⟨o,e,ex.2.1⟩
  .obtain⟨o,_,_,_,e,ex,_⟩:=I.hok p _ hk;refine⟨⟨o,e,ex.1⟩,fun a e2=>?_⟩;cases e2;exact⟨o,e,ex.2.1⟩
|_=>exact Qai ty
def Em(K:W.Frag)(T:String)(r:V->List V->Hp->VK->Prop)(to:TE):TE:=fun σ H Q=>to σ H fun x H1=>qc K T x H1/\r x [] H1 Q
def WQ(K:W.Frag)(T:String)(r:V->List V->Hp->VK->Prop)(to:TE)(t:TA):TE:=fun σ H Q=>to σ H fun x H1=>qc K T x H1/\t σ H1 fun xs H2=>r x xs H2 Q
variable{o:Expr}{es:List Expr}{to:TE}{t:TA}{name:Str}{apos cpos:Pos}{T id:String}{r:V->List V->Hp->VK->Prop}
theorem Gn(pa:QdP T)(slot:Slot T name id)(Z:Qev (.builtin id)=pure (.type "method_descriptor"))(hm:lj X id r)(ho:PE X o to)(Y:Qa9 o name X.env (eval o X.env)=eval o X.env:=by rfl)(U:(apos.endLine==cpos.line)=true:=by rfl):PE X (.Call (.Attribute o name apos) [] [] cpos) (Em X.K T r to):=by intro pz s σ H Q I h;refine wpAny_Call_method0_late Y U (bR (ho pz s σ H _ I h) fun v s1 ⟨x,H1,I1,r1,ty,q1⟩=>?_);obtain⟨h1,h2⟩:=F7 I1 r1 ty;exact⟨T,id,pa,slot,Z,h1,h2,QcD rfl (PySem.evalArgs_none (hm pz s1 σ H1 x [] v [] Q I1 r1 .nil q1))⟩
theorem Fe(pa:QdP T)(slot:Slot T name id)(Cl:Qev (.builtin id)=pure (.type "method_descriptor"))(hm:lj X id r)(ho:PE X o to)(ha:PA X (e::es) t)(Z:Qa9 o name X.env (eval o X.env)=eval o X.env:=by rfl)(BT:((backTo cpos (h_ (e::es) X.env)).all (fun x=>! x.1)&&(Qdf cpos (QbY [] X.env)).all (fun x=>x.1.isSome)
   && decide ((e::es).length+([]:List QeP).length+(if ([]:List QeP).isEmpty then 0 else 1)<30))=true:=by rfl)(Y:(apos.endLine==cpos.line)=true:=by rfl)(hs:h_ (e::es) X.env=(false,eval e X.env)::h_ es X.env:=by rfl)(U:(backTo cpos (h_ es X.env)).any (·.1)=false:=by rfl):PE X (.Call (.Attribute o name apos) (e::es) [] cpos) (WQ X.K T r to t):=by intro pz s σ H Q I h;refine wpAny_Call_method_late Z BT Y rfl (bR (ho pz s σ H _ I h) fun v s1 ⟨x,H1,I1,r1,ty,q1⟩=>?_);obtain⟨h1,h2⟩:=F7 I1 r1 ty;refine⟨T,id,pa,slot,Cl,h1,h2,?_⟩;have hA:=ha cpos pz s1 σ H1 _ I1 q1;rw[hs]at hA ⊢;refine QcD (by show(false || (backTo cpos (h_ es X.env)).any (·.1))=false;rw[U] <;> rfl) (Qd9 ?_);exact bR hA fun us s2 ⟨vs,H2,I2,r2,q2⟩=>hm pz s2 σ H2 x vs v us Q I2 r1 r2 q2
end
def LQ(X:Cx)(id:String)(r:V->List V->Hp->VK->Prop):Prop:=∀(pz:List (Addr×Obj))(s:c_)(σ:St)(H:Hp)(x:V)(xs:List V)(v:a_)(us:List a_)(Q:VK),Inv X pz σ H s->bH x v->aP xs us->r x xs H Q ->x_ (E_ X.prog X.w) X.A (call (.builtin id) (v::us)) (EP X pz σ Q) X.xe s
theorem aP.one{x:V}{us:List a_}(h:aP [x] us):∃u,us=[u]/\bH x u:=by cases h with
|cons r t=>cases t;exact⟨_,rfl,r⟩
theorem aP.zero:∀{us:List a_},aP [] us->us=[]
|_,.nil=>rfl
theorem aP.eraseIdx:∀{xs:List V}{us:List a_}(i:Nat),aP xs us->aP (xs.eraseIdx i) (us.eraseIdx i)
|_,_,_,.nil=>.nil
|_,_,0,.cons _ t=>t
|_,_,i+1,.cons r t=>.cons r (aP.eraseIdx i t)
theorem aP.reverse{xs:List V}{us:List a_}(h:aP xs us):aP xs.reverse us.reverse:=by induction h with
|nil=>exact .nil
|cons r t ih=>rw[QcE,QcE];exact aP.append ih (.cons r .nil)
theorem aP.rep{xs:List V}{us:List a_}(h:aP xs us):∀k:Nat,aP (p_ k xs).flatten (p_ k us).flatten
|0=>.nil
|k+1=>by rw[QaX,QaX,QaT,QaT];exact aP.append h (aP.rep h k)
theorem Jo(its:List a_):∀(k:Nat)(acc:List a_),QfA (fun x1 x2=>x1++x2) acc.toArray (p_ k its.toArray)=(acc++(p_ k its).flatten).toArray
|0,acc=>by simp
|k+1,acc=>by
  have e:acc.toArray++its.toArray=(acc++its).toArray:=by simp
  have e2:(acc++its)++(p_ k its).flatten=acc++(p_ (k+1) its).flatten:=by rw[QaX,QaT,Qab]
  rw[<-e2,<-Jo its k (acc++its),<-e,QaX,Qcm]
variable{pz:List (Addr×Obj)}{σ:St}{H:Hp}{s:c_}
section
variable{l b:Addr}{xs ys zs:List V}
theorem Inv.lset{its its':List a_}{n:Nat}{f:Array a_->Array a_}{t':Nat}(I:Inv X pz σ H s)(hH:H l=some (.lst xs))(e:s.heap.get? l=some { cls:=.type "list",data:=.seq its.toArray n })(hf:f its.toArray=its'.toArray)(hv:aP ys its')(hz:ys.length<=sizeLine):Inv X pz σ (aY H l (.lst ys)) { s with heap:=s.heap.update l (QbK f),toks:=t' }:=by have q:=PySem.IsL.update e f;rw[hf]at q;refine I.write (x:=l) (e:=l) (by rw[hH];exact trivial) (.inl rfl) (fun b' u hb hu=>(QdO s.heap (QbK f) (Qby hb)).trans hu) ⟨_,q⟩ ?_;exact⟨hz,its',_,hv,q⟩
theorem Inv.lnew{its:List a_}{t':Nat}(I:Inv X pz σ H s)(hv:aP ys its)(hz:ys.length<=sizeLine):Inv X pz σ (aY H s.heap.objs.size (.lst ys)) { s with heap:=s.heap.push { cls:=.type "list",data:=.seq its.toArray },toks:=t' }:=I.laid (fun _ _ q=>i_ _ q) (r_ _) ⟨hz,its,0,hv,B_ _ rfl⟩
theorem Inv.fresh(I:Inv X pz σ H s):H s.heap.objs.size=none:=I.hok.fresh (r_ _)
theorem Inv.lstM(I:Inv X pz σ H s)(hH:H l=some (.lst xs)):xs.length<=sizeLine/\∃(its:List a_)(n:Nat),aP xs its/\xs.length=its.length/\s.heap.get? l=some { cls:=.type "list",data:=.seq its.toArray n }:=by obtain⟨z,its,n,r,e⟩:=I.hok l _ hH;exact⟨z,its,n,r,r.length,e⟩
theorem Qx{n:Nat}(h:n<=sizeLine):Qcg n=false:=by unfold Qcg;exact decide_eq_false (by omega)
end
def Hk:V->List V->Hp->VK->Prop:=fun x vs H Q=>∃l xs y,x=.ref l/\vs=[y]/\H l=some (.lst xs)/\xs.length<sizeLine/\Q .non (aY H l (.lst (xs++[y])))
theorem kg:LQ X "list.append" Hk:=by intro pz s σ H x vs v us Q I rx rv h;obtain⟨l,xs,y,rfl,rfl,hH,hz,q⟩:=h;cases rx;obtain⟨u,rfl,ru⟩:=rv.one;obtain⟨z,its,n,r,hl,e⟩:=I.lstM hH;refine QcN F.slot_list_append ⟨_,e,rfl⟩ F.entry_list_append (F.args_list_append_2 _ _) (PySem.list_append l its.toArray n u (by rw[q_];omega)) ⟨e,?_⟩;refine⟨.non,_,I.lset (its':=its++[u]) hH e (by simp) (r.append (.cons ru .nil)) ?_,rfl,q⟩;rw[Y_,QcJ];omega
def Io:V->List V->Hp->VK->Prop:=fun x vs H Q=>∃l xs,x=.ref l/\vs=[]/\H l=some (.lst xs)/\Q .non (aY H l (.lst xs.reverse))
theorem Tv:LQ X "list.reverse" Io:=by intro pz s σ H x vs v us Q I rx rv h;obtain⟨l,xs,rfl,rfl,hH,q⟩:=h;cases rx;have U:=rv.zero;subst U;obtain⟨z,its,n,r,hl,e⟩:=I.lstM hH;refine QcN F.slot_list_reverse ⟨_,e,rfl⟩ F.entry_list_reverse (F.args_list_reverse_1 _) (AutoSeq1.list_reverse_list_0 l its.toArray n (by rw[q_];omega)) ⟨e,?_⟩;refine⟨.non,_,I.lset (its':=its.reverse) hH e (by simp) r.reverse ?_,rfl,q⟩;rw[List.length_reverse];omega
def Ev:R2:=fun x y H Q=>∃l k xs,x=.ref l/\y=.int k/\H l=some (.lst xs)/\-(2^63)<=k/\k<2^63/\xs.length*k.toNat<=sizeLine /\∀p,H p=none->Q (.ref p) (aY H p (.lst (p_ k.toNat xs).flatten))
theorem Os{α:Type}(xs:List α)(k:Nat):(p_ k xs).flatten.length=k*xs.length:=by induction k with
|zero=>simp
|succ k ih=>rw[QaX,QaT,Y_,ih,QeQ,QeR]
theorem MI:cM X (Qbc .Mult) Ev:=by
 intro pz s σ H x y v u Q I rx ry h;obtain⟨l,k,xs,rfl,rfl,hH,h1,h2,hz,q⟩:=h;cases rx;obtain⟨t,rfl⟩:=ry;obtain⟨z,its,n,r,hl,e⟩:=I.lstM hH;have hlen:its.toArray.size*k.toNat<=sizeLine:=by rw[q_,<-hl];exact hz
 have Z:¬ its.toArray.size*k.toNat>(2^63-1)/8:=by
  have:(sizeLine:Nat)<=(2^63-1)/8:=by decide
  omega
 have Cl:¬ (! Qdi k)=true:=by rw[fitsIndex_both h1 h2];exact d_
 have Y:¬ Qcg (its.toArray.size*k.toNat)=true:=by rw[Qx hlen];exact d_
 have BT:QfA (fun x1 x2=>x1++x2) #[] (p_ (if its.toArray.isEmpty=true then 0 else k.toNat) its.toArray)=(p_ k.toNat its).flatten.toArray:=by
  have f0:∀m:Nat,QfA (fun x1 x2=>x1++x2) #[] (p_ m its.toArray)=(p_ m its).flatten.toArray:=fun m=>by have:=Jo its m [];rw[QaY]at this;exact this
  rw[f0];cases its with
 |nil=>simp
 |cons a r'=>rw[if_neg (by simp)]
 refine wpAny_binaryOp_repeat_ref (T := "list") (U := "int") (by decide) ⟨_,e,rfl⟩ (fun s'=>Qfz s' k t) noFill_list_mul F.fills_int_mul F.slot_int_rmul repeat_list F.slot_int_index.lookup
  (QcN F.slot_int_rmul (Qfz s k t) F.entry_int_rmul (F.args_int_rmul_2 _ _) (int___rmul___int_list k t l its.toArray n)
   ⟨e,rfl,⟨_,e,rfl⟩,QcN F.slot_list_mul ⟨_,e,rfl⟩ F.entry_list_mul (F.args_list_mul_2 _ _) (AutoListH.list___mul___list_int_3 l its.toArray n k t Cl Z Y) ⟨e,?_⟩⟩)
 rw[BT];exact⟨.ref _,_,I.lnew (t':=s.toks) (r.rep k.toNat) (by rw[Os,QeS];exact hz),rfl,q _ I.fresh⟩
section
variable{κ:Type}[DecidableEq κ]
def d7(kvs:List (κ×V))(k:κ):Option V:=(kvs.find? fun kv=>decide (kv.1=k)).map (·.2)
def dC(kvs:List (κ×V))(k:κ)(v:V):List (κ×V):=if (kvs.any fun kv=>decide (kv.1=k))=true then kvs.map (fun kv=>if kv.1=k then(kv.1,v)else kv)else kvs++[(k,v)]
theorem wG{p:κ×V}{r:List (κ×V)}{k:κ}(e:p.1=k):d7 (p::r) k=some p.2:=by simp[d7,X_,e]
theorem rF{p:κ×V}{r:List (κ×V)}{k:κ}(e:¬ p.1=k):d7 (p::r) k=d7 r k:=by simp[d7,X_,e]
theorem IS(k:κ):∀kvs:List (κ×V),(kvs.any fun kv=>decide (kv.1=k))=(d7 kvs k).isSome
|[]=>rfl
|p::r=>by
  rw[QbP];by_cases e:p.1=k
  .simp only[wG e,decide_eq_true e,Bool.true_or,Option.isSome_some]
  .rw[rF e,decide_eq_false e,Qeo];exact IS k r
theorem CU(kvs:List (κ×V))(k:κ)(v:V):(dC kvs k v).length<=kvs.length+1:=by
 unfold dC;split
 .rw[l_];omega
 .rw[Y_,K_,Qbo];omega
theorem dL.isSome_eq{o:Option V}{u:Option a_}(r:dL o u):o.isSome=u.isSome:=by cases o with
|none=>cases u with
 |none=>rfl
 |some _=>exact(show False from r).elim
|some _=>cases u with
 |none=>exact(show False from r).elim
 |some _=>rfl
theorem KV.val{kvs:List (κ×V)}{vs:List (κ×a_)}(r:KV kvs vs)(k:κ):dL (d7 kvs k) (Qeh vs k):=by
 unfold KV at r
 induction r with
|nil=>exact True.intro
|@cons p q ps qs h t ih=>
  obtain⟨h1,h2⟩:=h;by_cases e:p.1=k
  .have e':q.1=k:=h1.symm.trans e;have b:Qeh (q::qs) k=some q.2:=by simp[Qeh,X_,e']
   rw[wG e,b];exact h2
  .have e':¬ q.1=k:=fun z=>e (h1.trans z);have b:Qeh (q::qs) k=Qeh qs k:=by simp[Qeh,X_,e']
   rw[rF e,b];exact ih
theorem KV.any{kvs:List (κ×V)}{vs:List (κ×a_)}(r:KV kvs vs)(k:κ):(kvs.any fun kv=>decide (kv.1=k))=vs.any fun kv=>decide (kv.1=k):=by
 unfold KV at r
 induction r with
|nil=>rfl
|cons h t ih=>rw[QbP,QbP,ih,h.1]
theorem KV.repl{kvs:List (κ×V)}{vs:List (κ×a_)}(r:KV kvs vs)(k:κ){y:V}{u:a_}(ry:bH y u):KV (kvs.map fun kv=>if kv.1=k then(kv.1,y)else kv) (vs.map fun kv=>if kv.1=k then(kv.1,u)else kv):=by
 unfold KV at r ⊢
 induction r with
|nil=>exact .nil
|@cons p q ps qs h t ih=>
  rw[o_,o_];refine .cons ?_ ih;obtain⟨h1,h2⟩:=h;by_cases e:p.1=k
  .rw[if_pos e,if_pos (h1.symm.trans e)];exact⟨h1,ry⟩
  .rw[if_neg e,if_neg (fun z=>e (h1.trans z))];exact⟨h1,h2⟩
theorem KV.put{kvs:List (κ×V)}{vs:List (κ×a_)}(r:KV kvs vs)(k:κ){y:V}{u:a_}(ry:bH y u):KV (dC kvs k y) (stored vs k u):=by
 unfold dC stored;rw[r.any k];by_cases e:(vs.any fun kv=>decide (kv.1=k))=true
 .rw[if_pos e,if_pos e];exact r.repl k ry
 .rw[if_neg e,if_neg e];exact Paired.snoc r ⟨rfl,ry⟩
theorem KV.length{kvs:List (κ×V)}{vs:List (κ×a_)}(r:KV kvs vs):kvs.length=vs.length:=Paired.length r
end
theorem qr{P:H_}{w:Z_}{k:bJ}{u:a_}(r:bH (kV k) u):(gO P w).is k u=true:=by cases k with
|inl i=>obtain⟨t,e⟩:=(show ∃t,u=Value.int i t from r);subst e;exact Um P w i t
|inr x=>obtain⟨t,e⟩:=(show ∃t,u=Value.str x t from r);subst e;exact Uo P w x t
theorem IT{P:H_}{w:Z_}:∀{ks:List bJ}{us:List a_},aP (ks.map kV) us->ItemsAre (gO P w) ks us
|[],_,r=>by rw[Qb6]at r;cases r;exact .nil
|k::ks,_,r=>by rw[o_]at r;cases r with
 |cons h t=>exact .cons (qr h) (IT t)
abbrev KT(H:Hp):List (List bJ×V)->List (List bJ×Addr×a_)->Prop:=Paired fun p q=>p.1=q.1/\H q.2.1=some (.tup (p.1.map kV))/\bH p.2 q.2.2
theorem KT.val{H:Hp}{kvs:List (List bJ×V)}{xs:List (List bJ×Addr×a_)}(r:KT H kvs xs)(k:List bJ):dL (d7 kvs k) ((Qfg xs k).map (·.2)):=by induction r with
|nil=>exact True.intro
|@cons p q ps qs h t ih=>
  obtain⟨h1,_,h2⟩:=h;by_cases e:p.1=k
  .have e':q.1=k:=h1.symm.trans e;have b:Qfg (q::qs) k=some q.2:=by simp[Qfg,X_,e']
   rw[wG e,b];exact h2
  .have e':¬ q.1=k:=fun z=>e (h1.trans z);have b:Qfg (q::qs) k=Qfg qs k:=by simp[Qfg,X_,e']
   rw[rF e,b];exact ih
theorem KT.repl{H:Hp}{kvs:List (List bJ×V)}{xs:List (List bJ×Addr×a_)}(r:KT H kvs xs)(k:List bJ){y:V}{u:a_}(ry:bH y u):KT H (kvs.map fun kv=>if kv.1=k then(kv.1,y)else kv) (xs.map (putAt k u)):=by induction r with
|nil=>exact .nil
|@cons p q ps qs h t ih=>
  rw[o_,o_];refine .cons ?_ ih;obtain⟨h1,h2,h3⟩:=h;unfold putAt;by_cases e:p.1=k
  .rw[if_pos e,if_pos (h1.symm.trans e)];exact⟨h1,h2,ry⟩
  .rw[if_neg e,if_neg (fun z=>e (h1.trans z))];exact⟨h1,h2,h3⟩
theorem KT.put{H:Hp}{kvs:List (List bJ×V)}{xs:List (List bJ×Addr×a_)}(r:KT H kvs xs)(k:List bJ){b:Addr}{y:V}{u:a_}(hb:H b=some (.tup (k.map kV)))(ry:bH y u):KT H (dC kvs k y) (storedH xs k b u):=by
 have e:(kvs.any fun kv=>decide (kv.1=k))=(Qfg xs k).isSome:=by rw[IS,(r.val k).isSome_eq,Qdq]
 unfold dC storedH;rw[e];by_cases q:(Qfg xs k).isSome=true
 .rw[if_pos q,if_pos q];exact r.repl k ry
 .rw[if_neg q,if_neg q];exact Paired.snoc r ⟨rfl,hb,ry⟩
theorem KT.keeps{H H':Hp}{kvs:List (List bJ×V)}{xs:List (List bJ×Addr×a_)}(r:KT H kvs xs)(ht:∀b ys,H b=some (.tup ys)->H' b=some (.tup ys)):KT H' kvs xs:=Paired.mapP r fun _ _ z=>⟨z.1,ht _ _ z.2.1,z.2.2⟩
variable{a:Addr}
section
variable{P:H_}{w:Z_}{h:Heap}
theorem Fz{u:HO}(ok:HOk P w H h)(e:Rd H a u):cY P w H h a u:=e.ok ok
theorem pj{kvs:List (bJ×V)}(ok:HOk P w H h)(e:Rd H a (.dK kvs)):kvs.length<=sizeLine/\(a==Qbs)=false/\∃vs,KV kvs vs/\h.DictOf (gO P w) a vs:=show cY P w H h a (.dK kvs)from Fz ok e
theorem V5{kvs:List (bJ×V)}(ok:HOk P w H h)(e:H a=some (.dK kvs)):kvs.length<=sizeLine/\(a==Qbs)=false/\∃vs,KV kvs vs/\h.DictOf (gO P w) a vs:=pj ok (.inl e)
theorem qN{ks:List bJ}(ok:HOk P w H h)(e:H a=some (.tup (ks.map kV))):(Qeg (gO P w)).is h ks a:=by
 obtain⟨_,its,r,⟨o,h1,h2,n,h3⟩,_⟩:=(show cY P w H h a (.tup (ks.map kV))from ok a _ e)
 exact⟨o,its.toArray,n,h1,h2,h3,by simpa using IT r⟩
theorem qF{kvs:List (List bJ×V)}(ok:HOk P w H h)(e:Rd H a (.dT kvs)):kvs.length<=sizeLine/\(a==Qbs)=false /\∃xs,KT H kvs xs/\h.DictOfH (Qeg (gO P w)) a xs:=by
 obtain⟨z,y,xs,r,o,es,ep,h1,h2,h3,h4,h5⟩:=(show cY P w H h a (.dT kvs)from Fz ok e)
 refine⟨z,y,xs,r,o,es,ep,h1,h2,h3,h4,fun x hx=>?_,h5⟩;have all:∀{l:List (List bJ×V)}{m:List (List bJ×Addr×a_)},KT H l m->∀x∈m,(Qeg (gO P w)).is h x.1 x.2.1:=by
  intro l m q
  induction q with
 |nil=>intro x hx;exact nomatch hx
 |@cons p q ps qs hq t ih=>
   intro x hx;rcases t_.mp hx with e|hx
   .subst e;exact qN ok (by rw[<-hq.1];exact hq.2.1)
   .exact ih x hx
 exact all r x hx
theorem V6{kvs:List (List bJ×V)}(ok:HOk P w H h)(e:H a=some (.dT kvs)):kvs.length<=sizeLine/\(a==Qbs)=false /\∃xs,KT H kvs xs/\h.DictOfH (Qeg (gO P w)) a xs:=qF ok (.inl e)
end
def jI(H:Hp)(a:Addr)(y:V)(r:Option V):Prop:=(∃kvs k,Rd H a (.dK kvs)/\y=kV k/\r=d7 kvs k)\/∃kvs k b,Rd H a (.dT kvs)/\y=.ref b/\H b=some (.tup (k.map kV))/\r=d7 kvs k
def kH(H:Hp)(a:Addr)(y v:V)(H':Hp):Prop:=(∃kvs k,H a=some (.dK kvs)/\y=kV k/\kvs.length<sizeLine/\H'=aY H a (.dK (dC kvs k v))) \/∃kvs k b,H a=some (.dT kvs)/\y=.ref b/\H b=some (.tup (k.map kV))/\kvs.length<sizeLine/\H'=aY H a (.dT (dC kvs k v))
theorem kH.k{H:Hp}{a:Addr}{kvs:List (bJ×V)}{k:bJ}{v:V}(e:H a=some (.dK kvs))(hl:kvs.length<sizeLine):kH H a (kV k) v (aY H a (.dK (dC kvs k v))):=.inl ⟨kvs,k,e,rfl,hl,rfl⟩
variable{u:a_}{A:Qag}{E:a_->c_->Prop}
section
variable{y v:V}{r:a_}{o:Option V}
theorem Inv.big(I:Inv X pz σ H s):Qbs<s.heap.objs.size:=by have h:N_<s.heap.objs.size:=(I.mod.glob.keeps I.bk).lt;exact Nat.lt_trans (by decide) h
theorem SH{Q:a_->c_->Prop}(hu:A.units+1<Qbx)(I:Inv X pz σ H s)(g:jI H a y (some v))(ry:bH y u)(h:∀w' s',Inv X pz σ H s'->bH v w'->Q w' s'):x_ (E_ X.prog X.w) A (QeN (.ref a) u) Q E s:=by
 rcases g with⟨kvs,k,e,ey,l⟩|⟨kvs,k,b,e,ey,eb,l⟩
 .subst ey;obtain⟨z,hd,vs,Y,dd⟩:=pj I.hok e;obtain⟨w',hw,U⟩:=dL.some_of (v:=v) (o:=Qeh vs k) (by rw[l];exact Y.val k);exact wpAny_getItem_of (qr ry) dd.mapOf hw (h w' _ (I.tok _) U)
 .subst ey;cases(show u=Value.ref b from ry);obtain⟨z,hd,xs,Y,dd⟩:=qF I.hok e;obtain⟨w',hw,U⟩:=dL.some_of (v:=v) (o:=(Qfg xs k).map (·.2)) (by rw[l];exact Y.val k);obtain⟨p,hp,Z⟩:=QdQ.mp hw;refine wpAny_getItem_heap (Qcp hu) (qN I.hok eb) dd hp ?_;rw[Z];exact h w' _ (I.tok _) U
theorem EH{Q:a_->c_->Prop}(hu:A.units+1<Qbx)(I:Inv X pz σ H s)(g:jI H a y o)(ry:bH y u)(h:∀s',Inv X pz σ H s'->Q (.bool o.isSome) s'):x_ (E_ X.prog X.w) A (Qak .In u (.ref a)) Q E s:=by
 rcases g with⟨kvs,k,e,ey,l⟩|⟨kvs,k,b,e,ey,eb,l⟩
 .subst ey;obtain⟨z,hd,vs,U,dd⟩:=pj I.hok e;refine wpAny_in_of (qr ry) hd dd.mapOf ?_;rw[<-(U.val k).isSome_eq,<-l];exact h _ (I.tok _)
 .subst ey;cases(show u=Value.ref b from ry);obtain⟨z,hd,xs,U,dd⟩:=qF I.hok e;refine wpAny_in_heap (Qcp hu) (qN I.hok eb) hd dd ?_;have q:=(U.val k).isSome_eq;rw[Qdq]at q;rw[<-q,<-l];exact h _ (I.tok _)
theorem OY{Q:a_->c_->Prop}(hu:A.units+1<Qbx)(I:Inv X pz σ H s)(g:jI H a y o)(ry:bH y u)(h:∀s',Inv X pz σ H s'->Q (.bool (! o.isSome)) s'):x_ (E_ X.prog X.w) A (Qak .NotIn u (.ref a)) Q E s:=by
 rcases g with⟨kvs,k,e,ey,l⟩|⟨kvs,k,b,e,ey,eb,l⟩
 .subst ey;obtain⟨z,hd,vs,U,dd⟩:=pj I.hok e;refine wpAny_notIn_of (qr ry) hd dd.mapOf ?_;rw[<-(U.val k).isSome_eq,<-l];exact h _ (I.tok _)
 .subst ey;cases(show u=Value.ref b from ry);obtain⟨z,hd,xs,U,dd⟩:=qF I.hok e;refine wpAny_notIn_heap (Qcp hu) (qN I.hok eb) hd dd ?_;have q:=(U.val k).isSome_eq;rw[Qdq]at q;rw[<-q,<-l];exact h _ (I.tok _)
theorem Hf{h':Heap}{t':Nat}{ob:HO}(I:Inv X pz σ H s)(mu:tK (H a))(hs:Qc5 a s.heap h')(he:∃q,h'.get? a=some q)(new:cY X.prog X.w (aY H a ob) h' a ob):Inv X pz σ (aY H a ob) { s with heap:=h',toks:=t' }:=I.write (x:=a) (e:=a) mu (.inl rfl) (fun b q hb z=>(hs.2 b hb).trans z) he new
theorem Mv{P:H_}{w:Z_}{H':Hp}{h':Heap}{kvs:List (bJ×V)}{vs:List (bJ×a_)}(z:kvs.length<=sizeLine)(hd:(a==Qbs)=false)(U:KV kvs vs)(dd:h'.DictOf (gO P w) a vs):cY P w H' h' a (.dK kvs):=⟨z,hd,vs,U,dd⟩
theorem SJ{H':Hp}{Q:Unit->c_->Prop}(hu:A.units+1<Qbx)(I:Inv X pz σ H s)(g:kH H a y v H')(ry:bH y u)(rv:bH v r)(h:∀s',Inv X pz σ H' s'->Q () s'):x_ (E_ X.prog X.w) A (setItem (.ref a) u r) Q E s:=by
 rcases g with⟨kvs,k,e,ey,l,eH⟩|⟨kvs,k,b,e,ey,eb,l,eH⟩
 .subst ey eH;obtain⟨z,hd,vs,U,dd⟩:=V5 I.hok e;have hz:vs.length<=sizeLine:=by rw[<-U.length];exact z
  have hl:(dC kvs k v).length<=sizeLine:=by have:=CU kvs k v;omega
  refine wpAny_setItem_pairs (hsz:=hz) (qr ry) dd fun h' Y hs=>h _ ?_;have he:∃q,h'.get? a=some q:=let⟨q,_,_,hq,_⟩:=Y;⟨q,hq⟩;exact Hf I (by rw[e];exact True.intro) hs he (Mv hl hd (U.put k rv) Y)
 .subst ey eH;cases(show u=Value.ref b from ry);obtain⟨z,hd,xs,U,dd⟩:=V6 I.hok e;have hz:xs.length<=sizeLine:=by rw[<-Paired.length U];exact z
  have hl:(dC kvs k v).length<=sizeLine:=by have:=CU kvs k v;omega
  refine wpAny_setItem_heap (hsz:=hz) (Qcp hu) (qN I.hok eb) dd fun h' Y hs=>h _ ?_;obtain⟨q,es,ep,hq,h2,h3,h4,_,h5⟩:=Y;refine Hf I (by rw[e];exact True.intro) hs ⟨q,hq⟩ ⟨hl,hd,_,(U.put k eb rv).keeps fun c ys ec=>?_,q,es,ep,hq,h2,h3,h4,h5⟩;rw[bT (Wq ec e (fun z=>nomatch z))];exact ec
end
section
variable{kvs:List (bJ×V)}{k:bJ}
theorem WB{Q:a_->c_->Prop}(I:Inv X pz σ H s)(e:Rd H a (.dK kvs))(h:∀t s',Inv X pz σ H s'->Q (.int kvs.length t) s'):x_ (E_ X.prog X.w) A (call (.builtin "len") [.ref a]) Q E s:=by obtain⟨z,hd,vs,U,dd⟩:=pj I.hok e;refine call_len_dict hd dd (by rw[<-U.length];rw[Qaa]at z;omega) ?_;rw[<-U.length];exact h _ _ (I.tok _)
end
theorem UD{X:Cx}{pz:List (Addr×Obj)}{σ:St}{H:Hp}{s:c_}{a:Addr}{y:V}{o:Option V}(I:Inv X pz σ H s)(g:jI H a y o):s.TypeIs (.ref a) "dict" := by
 rcases g with⟨kvs,k,e,_,_⟩|⟨kvs,k,b,e,_,_,_⟩
 .obtain⟨_,_,vs,_,dd⟩:=pj I.hok e;exact dd.typeIs
 .obtain⟨_,_,xs,_,dd⟩:=qF I.hok e;exact dd.typeIs
theorem QU{P:H_}{w:Z_}{H:Hp}(h:Heap)(hb:Qbs<h.objs.size):cY P w H (h.push { cls:=.type "dict",data:=.dict #[] }) h.objs.size (.dK []):=⟨Qaf _,beq_eq_false_iff_ne.mpr (Qby (S_ hb)),[],.nil,Heap.DictOf.new h⟩
def ND:TE:=fun _ H Q=>∀p,H p=none->Q (.ref p) (aY H p (.dK []))
theorem QO:PE X (.Dict [] [] pos) ND:=fun pz s σ H Q I h=>wpAny_Dict_empty ⟨.ref s.heap.objs.size,_,I.laid (a:=s.heap.objs.size) (o:=.dK []) (t':=s.toks) (fun _ _ q=>i_ _ q) (r_ _) (QU s.heap I.big),rfl,h _ (I.hok.fresh (r_ _))⟩
def mU(kvs more:List (bJ×V)):List (bJ×V):=more.foldl (fun acc kv=>dC acc kv.1 kv.2) kvs
theorem KV.merge:∀{more:List (bJ×V)}{rs:List (bJ×a_)}{kvs:List (bJ×V)}{vs:List (bJ×a_)},KV more rs->KV kvs vs->KV (mU kvs more) (merged vs rs):=by
 intro more rs kvs vs r;unfold KV at r
 induction r generalizing kvs vs with
|nil=>intro q;exact q
|@cons p q ps qs h t ih=>
  intro r0;have e:KV (dC kvs p.1 p.2) (stored vs q.1 q.2):=by have:=r0.put p.1 h.2;rw[<-h.1];exact this
  exact ih e
theorem KO:∀(more kvs:List (bJ×V)),(mU kvs more).length<=kvs.length+more.length
|[],kvs=>by show kvs.length<=kvs.length+0;omega
|p::r,kvs=>by have h1:=KO r (dC kvs p.1 p.2);have h2:=CU kvs p.1 p.2;show(mU (dC kvs p.1 p.2) r).length<=_;rw[K_];omega
end L2
namespace Att
open PySem PySem.W PySem.Calls PyProof.Rows
theorem Vd{P:Params}{h:Heap}:∀(ns:List Int)(vs:List a_),WellAll P h vs (ns.map WData.int)->Qcl vs ns:=by
 intro ns
 induction ns with
|nil=>intro vs w;rw[Qb6]at w;cases w;exact .nil
|cons n ns ih=>intro vs w;rw[o_]at w;cases w with
 |cons a b=>cases a;exact .cons _ _ (ih _ b)
theorem T3{l:OpenLaw}{n:Nat}(hn:l.most=some n){P:Params}{h:Heap}{args:List WData}{vals:List a_}(U:l.row.toRowW.claim.pre args=true)(Z:WellAll P h vals args):∃a vs ns,vals=[Value.ref a]/\args=[WData.list (ns.map WData.int)]/\h.get? a=some { cls:=.type "list",data:=.seq vs.toArray }/\Qcl vs ns/\ns.length<=n:=by
 have Y:WShape.hasAll [] args [.list .int]=true:=(pre_splitW U).1;have hc:l.pre.holds [] { args:=args }=true:=(pre_splitW U).2;obtain⟨d,r,rfl,h1,h2⟩:=hasAllW_cons Y;obtain rfl:=hasAllW_nil h2;obtain⟨xs,rfl,h3⟩:=hasW_list h1;obtain⟨ns,rfl⟩:=items_int h3;have hlen:ns.length<=n:=by
  unfold OpenLaw.pre at hc;have h4:(WTm.not (.lt (.lit (.int (n:Int))) (.len (.arg 0)))).holds [] { args:=[.list (ns.map .int)] }=true:=by have h4:=(holds_andW hc).1;rw[hn]at h4;exact h4
  have h5:=condW_of h4 (w_not (w_lt w_lit (w_len_list (w_arg rfl))));rw[l_]at h5;refine Nat.le_of_not_lt fun q=>?_;have q':(n:Int)<((ns.length:Nat):Int):=by omega
  first
   |(rw[decide_eq_true q']at h5;exact absurd h5 (by decide))
   |(simp at h5;omega)
 cases Z with
|cons w1 w2=>cases w2;cases w1 with
 |list ho hall=>exact⟨_,_,ns,rfl,rfl,ho,Vd ns _ hall,hlen⟩
theorem Tc(l:OpenLaw)(args:List WData):l.row.toRowW.claim.post args (.bool true) args=true:=
 postW_of (r:=l.row.toRowW) (X:=(true==true))
  (show Qga [] (.bool true) .bool=true by first|rfl|decide|simp[Qga,WShape.arms,WShape.armsAll])
  (show(WTm.eq .res (.lit (.bool true))).value [] { args:=args,res:=some (.bool true),after:=args }=some (.bool (true==true))from w_eq_bool (w_res rfl) w_lit) rfl
theorem attach_call{l:OpenLaw}{n:Nat}{q:H_}{U:List Str}{XP:(Str->Option a_)->Heap->Prop}{YP:Z_->Heap->Prop}{d:DefRec}(hn:l.most=some n)(IO:d.params.defaults=[])(call:∀(w:Z_)(s₀ s₁:c_)(mg mb:Str->Option a_)(fa:Addr)(o:Obj)(pm cd doc:a_)(a:Addr)(vs:List a_)(ns:List Int),Ground q U [] XP w s₀ mg mb s₁.heap->YP w s₁.heap ->s₁.heap.get? fa=some o->o.data=.func (docDef d.name d.params d.body d.scope pm cd doc)->s₁.heap.CodeRec cd d.name->mg d.name=some (.ref fa) ->s₁.heap.get? a=some { cls:=.type "list",data:=.seq vs.toArray }->Qcl vs ns->ns.length<=n->s₁.gens = #[] ->QcS (E_ l.prog w) QdR (.call (.ref fa) ⟨[.ref a],[]⟩) (fun r s'=>r=.ok (.ret (.bool true))/\OldK s₁.heap s'.heap/\s'.os=s₁.os/\Qcy s'.gens) s₁):WalkO q U XP YP l.row.toRowW d [] (fun f vs=>QfB f vs):=by intro w s₀ s₁ mg mb G Y fa o pm cd doc dV kV ho hd Id hD hmg hg args vals as BT LE ST KK LT;obtain rfl:dV=.none:=Dflts.none hD IO;obtain rfl:kV=.none:=Dflts.noKw hD;obtain⟨a,vs,ns,rfl,rfl,Cl,Z,hlen⟩:=T3 hn BT KK;refine enter_call (QcB (call w s₀ s₁ mg mb fa o pm cd doc a vs ns G Y ho (fd_plain hd) Id hmg Cl Z hlen hg) fun r s' hq=>?_);obtain⟨rfl,h2,h3,h4⟩:=hq;exact⟨.inl ⟨.bool true,.bool true,[],rfl,fun _=>rfl,.bool true,Tc l _,fun _=>⟨List.Pairwise.nil,fun _ hm=>(nomatch hm)⟩⟩,h2,h3,h4⟩
end Att
namespace L2
open PySem PySem.Spec PyProof.Rows
theorem Jv:∀{vs:List a_}{ns:List Int},Qcl vs ns->aP (ns.map V.int) vs
|_,_,.nil=>.nil
|_,_,.cons n t h=>.cons ⟨t,rfl⟩ (Jv h)
def oZ(H:Hp):Prop:=∀b,H b=none\/∃o xs,H b=some (.frz o (.lst xs))
theorem Q6{P:H_}{w:Z_}{K:W.Frag}{mg mb:Str->Option a_}{CX:jJ}{k:Nat}{fa a:Addr}{fd:QaE}{x:Str}{sp:Sp}{s₁:c_}{vs:List a_}{ns:List Int}(KX:K.In s₁.heap)(Id:s₁.heap.Ns N_ mg)(hb:s₁.heap.Ns Qfr mb)(Ty:∀x:Str,x≠"__name__"->mb x=Qb4 x)(KK:s₁.heap.NoLimit)(hg:s₁.gens = #[])(ha:s₁.heap.get? a=some { cls:=.type "list",data:=.seq vs.toArray })(hi:Qcl vs ns)(hl:ns.length<=sizeLine)(hr:Room k QdR)(F:∀base:Heap,K.In base->base.Ns N_ mg->FnOk P w K mg base CX k fa fd [x] sp)(BT:∀(s:c_)(u:a_),QeM s fd ⟨[u],[]⟩ [(x,u)])(LT:∀H:Hp,oZ H->cX K H a (ns.map V.int)->sp [.ref a] H (fun v _=>v=.bl true) fun _ _ _=>False)(Tm:∀H e s',CX [] H s₁ (fun _ _ _=>False) e s'->False):QcS (E_ P w) QdR (.call (.ref fa) ⟨[.ref a],[]⟩) (fun r s'=>r=.ok (.ret (.bool true))/\OldK s₁.heap s'.heap/\s'.os=s₁.os/\Qcy s'.gens) s₁:=by
 have rv:=Jv hi;have IO:=hi.length;have Z:∀H:Hp,oZ H->cX K H a (ns.map V.int)->HOk P w H s₁.heap->(∀b,H b≠none->b=a)->(H a≠none->K.lookup a=none) ->QcS (E_ P w) QdR (.call (.ref fa) ⟨[.ref a],[]⟩) (fun r s'=>r=.ok (.ret (.bool true))/\OldK s₁.heap s'.heap/\s'.os=s₁.os/\Qcy s'.gens) s₁:=by
  intro H hO hS hok hA hK;have U:∀{b:Addr}{o:Obj},s₁.heap.get? b=some o->H b=none->(gY s₁.heap H).get? b=some o:=fun e n=>Q0 e n;have ST:∀{b:Addr}{o:Obj}{es:Array Qe3}{ep:Nat},s₁.heap.get? b=some o->o.data=.dict es ep->H b=none:=fun{b o es ep} e d=>by cases q:H b with
  |none=>rfl
  |some u=>have e':b=a:=hA b (by rw[q];simp);subst e';rw[ha]at e;cases e;have d':Data.seq vs.toArray _=Data.dict es ep:=d;cases d'
  have Y:∀{b:Addr}{m:Str->Option a_},s₁.heap.Ns b m->(gY s₁.heap H).Ns b m:=fun{b m} ⟨o,es,ep,e,d,r⟩=>⟨o,es,ep,U e (ST e d),d,r⟩
  have Cl:K.In (gY s₁.heap H):=fun b o e=>U (KX b o e) (by cases q:H b with
  |none=>rfl
  |some u=>have e':b=a:=hA b (by rw[q];simp);subst e';rw[hK (by rw[q];simp)]at e;cases e)
  have hM:Mod K mg (gY s₁.heap H):=⟨Cl,Y Id,⟨mb,Y hb,Ty⟩,let⟨mc,h1,h2⟩:=KK;⟨mc,Y h1,h2⟩⟩
  have e0:Env0 P w K mg (gY s₁.heap H) QdR [] s₁ H:=⟨rfl,hM,fun b o e=>Oz e,QcA (Sx _ _),trivial,fun b hb=>absurd (show b∈([]:List Addr)from hb) (by simp),hok,.of_eq hg⟩
  refine QcB ((F _ Cl (Y Id)).run QdR [] s₁ H ⟨[.ref a],[]⟩ [.ref a] [.ref a] _ _ hr e0 (BT s₁ (.ref a)) (.cons rfl .nil) (LT H hO hS)) fun r s' h=>?_;cases r with
 |error e=>exact(Tm H e s' h).elim
 |ok fl=>cases fl with
  |next=>exact Qai h
  |brk=>exact Qai h
  |cont=>exact Qai h
  |ret u=>obtain⟨v,H',os,bare,un,LE,r',q⟩:=h;have q':v=.bl true:=q;subst q';obtain rfl:u=Value.bool true:=r';refine⟨rfl,OldK.of_keep fun b o e=>?_,os,bare⟩;cases q:H b with
   |none=>exact un.keep b o e q (by intro z;exact absurd (show b∈([]:List Addr)from z) (by simp)) (by simp)
   |some u=>
     rcases hO b with z|⟨ob,xs,z⟩
     .rw[q]at z;cases z
     .have z2:=un.frzs b ob _ z;obtain⟨e1,_⟩:=hok b _ z;obtain⟨e2,_⟩:=LE b _ z2;rw[e]at e1;cases e1;exact e2
 cases hk:K.lookup a with
|some o=>have e:=KX a o hk;rw[ha]at e;cases e;refine Z (fun _=>none) (fun _=>.inl rfl) (.inr ⟨_,vs.toArray,_,hk,rfl,rfl,rfl,by rw[q_,IO];exact hl,by simpa using rv⟩) (fun b u z=>by have z':(none:Option HO)=some u:=z;cases z') (fun b z=>absurd rfl z) fun z=>absurd rfl z
|none=>
  refine Z (fun b=>if b=a then some (.frz { cls:=.type "list",data:=.seq vs.toArray } (.lst (ns.map V.int)))else none) (fun b=>?_) (.inl (.inr ⟨{ cls:=.type "list",data:=.seq vs.toArray },if_pos rfl⟩)) (fun b u z=>?_) (fun b z=>?_) fun _=>hk
  .by_cases hb:b=a
   .exact .inr ⟨_,_,if_pos hb⟩
   .exact .inl (if_neg hb)
  .by_cases hb:b=a
   .have z':=(if_pos hb).symm.trans z;cases z';subst hb;exact⟨ha,by rw[l_];exact hl,vs,_,rv,ha⟩
   .have z':=(if_neg hb).symm.trans z;cases z'
  .by_cases hb:b=a
   .exact hb
   .exact absurd (if_neg hb) z
abbrev bQ{K:W.Frag}{h:Heap}(_:K.In h):W.Frag:=K
theorem lQ{l:W.OpenLaw}{n k:Nat}{q:H_}{Z:List Str}{XP:(Str->Option a_)->Heap->Prop}{YP:Z_->Heap->Prop}{d:DefRec}{K:Params->W.Frag}{CX:Z_->jJ}{sp:Z_->Sp}{x:Str}(hn:l.most=some n)(IO:n<=sizeLine)(KK:d.params.defaults=[])(hr:Room k QdR)(hY:∀(w:Z_)(h:Heap),YP w h->(K w.params).In h)(F:∀(w:Z_)(mg:Str->Option a_)(fa:Addr)(h:Heap),(K w.params).In h->h.Ns N_ mg->mg d.name=some (.ref fa) ->∃fd:QaE,(∀(s:c_)(u:a_),QeM s fd ⟨[u],[]⟩ [(x,u)]) /\∀base:Heap,(K w.params).In base->base.Ns N_ mg->FnOk l.prog w (K w.params) mg base (CX w) k fa fd [x] (sp w))(Id:∀(w:Z_)(H:Hp)(a:Addr)(ns:List Int),ns.length<=n->oZ H->cX (K w.params) H a (ns.map V.int)->sp w [.ref a] H (fun v _=>v=.bl true) fun _ _ _=>False)(Cl:∀(w:Z_)(H:Hp)(s:c_)(e:a_)(s':c_),CX w [] H s (fun _ _ _=>False) e s'->False):W.WalkO q Z XP YP l.row.toRowW d [] (fun f vs=>QfB f vs):=by refine Att.attach_call hn KK fun w s₀ s₁ mg mb fa o pm cd doc a vs ns G Y ho hd LE hmg BT U hlen hg=>?_;have KX:=hY w _ Y;obtain⟨fd,hb,hF⟩:=F w mg fa _ KX G.T.g hmg;exact Q6 KX G.T.g G.T.b G.T.builtins G.T.nolimit hg BT U (L_ hlen IO) hr hF hb (fun H hO hS=>Id w H a ns hlen hO hS) fun H e s'=>Cl w H s₁ e s'
def aU(s:Stmt):Arguments:=match s with
|.FunctionDef _ a _ _ _ _ _ _ _ _=>a
|_=>{ posonlyargs:=[],args:=[],vararg:=none,kwonlyargs:=[],kw_defaults:=[],kwarg:=none,defaults:=[] }
def aN(s:Stmt):List Stmt:=match s with
|.FunctionDef _ _ b _ _ _ _ _ _ _=>b
|_=>[]
def aF(s:Stmt):Qct:=match s with
|.FunctionDef _ _ _ _ _ _ sc _ _ _=>sc
|_=>{ kind:=.function,names:=[],isGenerator:=false,isCoroutine:=false }
abbrev dm:jJ:=fun _ _ _ _ _ _=>False
abbrev E0:XK:=fun _ _ _=>False
theorem qI{X:Cx}:pv dm X E0:=fun _ _ _ _ _ _ _ h=>h.elim
structure Fun(K:W.Frag)(x qual:Str)(st:Stmt)(f:Addr)(fd:QaE):Prop where
 ex:∃(oc:a_)(od:Option Addr)(kV doc pm:a_)(an:Option Addr)(cdv ct:a_)(osl:Array (Option a_)),fd=W.fnOf x qual (aU st) (aN st) (aF st) .none kV doc pm an cdv ct/\K.lookup f=some ⟨oc,od,.func fd,osl⟩/\W.codeIn K cdv qual=true
 kp:W.keepIn K (.ref f)=true
section
variable{P:H_}{w:Z_}{K:W.Frag}{mg:Str->Option a_}{base:Heap}
theorem Fun.ok{x qual:Str}{st:Stmt}{f:Addr}{fd:QaE}{N ps:List Str}{k:Nat}{sp:Sp}(F:Fun K x qual st f fd)(S:FnScope N ps (aF st))(len:∀vs H Q E,sp vs H Q E->vs.length=ps.length)(U:∀(cdv:a_)(A:Qag)(outer:List Env)(s:c_)(H:Hp)(vs:List V)(Q:VK)(E:XK),Room k (A.deeper (QbJ qual (aF st) s.heap.objs.size f cdv))->sp vs H Q E ->∃t,eD (cw dm P w K mg base N qual (aF st) f cdv A outer s H E).nox (aN st) t/\t { nx:=fun _ H'=>Q .non H',rt:=Q } (cz N vs) H):FnOk P w K mg base dm (k+1) f fd ps sp:=by obtain⟨oc,od,kV,doc,pm,an,cdv,ct,osl,rfl,lk,Y⟩:=F.ex;refine qw lk Y S len fun A outer s H vs Q E hr Z=>?_;obtain⟨t,h,q⟩:=U cdv A outer s H vs Q E hr Z;exact⟨t,h.nox,q⟩
theorem Fun.binds{x qual:Str}{st:Stmt}{f:Addr}{fd:QaE}{ps:List Str}(F:Fun K x qual st f fd)(h:∀(kV doc pm:a_)(an:Option Addr)(cdv ct:a_)(us:List a_),us.length=ps.length->QbN (W.fnOf x qual (aU st) (aN st) (aF st) .none kV doc pm an cdv ct) ⟨us,[]⟩=pure (ps.zip us)):g5 K fd ps []:=by obtain⟨oc,od,kV,doc,pm,an,cdv,ct,osl,rfl,lk,U⟩:=F.ex;exact .all (h kV doc pm an cdv ct)
theorem db{x qual:Str}{st:Stmt}{f:Addr}{oc:a_}{od an:Option Addr}{osl:Array (Option a_)}{kV doc pm cdv ct:a_}(l:K.lookup f=some ⟨oc,od,.func (W.fnOf x qual (aU st) (aN st) (aF st) .none kV doc pm an cdv ct),osl⟩)(c:W.codeIn K cdv qual=true)(k:W.keepIn K (.ref f)=true):Fun K x qual st f (W.fnOf x qual (aU st) (aN st) (aF st) .none kV doc pm an cdv ct):=⟨⟨oc,od,kV,doc,pm,an,cdv,ct,osl,rfl,l,c⟩,k⟩
end
theorem dH{A:Qag}{k:Nat}(hr:Room k A):A.units+1<Qbx:=Qdj (Nat.add_le_add_left (by decide:1<=64) _) hr.units
section
variable{X:Cx}
theorem RA:gL X (.builtin "len") (fun xs H Q=>∃a kvs,xs=[V.ref a]/\Rd H a (.dK kvs)/\Q (.int kvs.length) H):=by intro pz s σ H xs us Q I r h;obtain⟨a,kvs,rfl,ha,q⟩:=h;obtain⟨u,rfl,ru⟩:=jp r;cases ru;exact WB I ha fun t s' I'=>⟨.int kvs.length,H,I',⟨t,rfl⟩,q⟩
end
def Same(H H':Hp):Prop:=∀b o,H b=some o->H' b=some o
end L2
end
namespace DL
open PySem
section
open PySem.SeqAt
open PySem.AutoSeq1 (wpAny_loadPart')
open PySem.MeetsSeq PySem.MeetsSeq2 PySem.MeetsSeq3
end
end DL
namespace DL
open PySem PyProof.Rows
end DL
namespace DL
open PySem PyProof.Rows PySem.W
def qM{α:Type}(c:Nat->Nat->Bool):KasT α->α
|.ret a=>a
|.ask i j k=>qM c (k (c i j))
inductive Asks(n:Nat){α:Type}(P:α->Prop):KasT α->Prop where
 |ret {a:α}:P a->Asks n P (.ret a)
 |ask {i j:Nat} {k:Bool->KasT α}:i<n->j<n->(∀b,Asks n P (k b))->Asks n P (.ask i j k)
theorem Asks.bind{n:Nat}{α β:Type}{P:α->Prop}{P':β->Prop}{t:KasT α}{f:α->KasT β}(h:Asks n P t)(hf:∀a,P a->Asks n P' (f a)):Asks n P' (t.bind f):=by induction h with
|ret h=>exact hf _ h
|ask h1 h2 _ ih=>exact .ask h1 h2 ih
theorem Asks.run{n:Nat}{α:Type}{P:α->Prop}{t:KasT α}(h:Asks n P t)(c:Nat->Nat->Bool):P (qM c t):=by induction h with
|ret h=>exact h
|ask _ _ _ ih=>exact ih _
theorem Sh{n:Nat}{α:Type}{P:α->Prop}{cmp:Nat->Nat->(Bool->c_->Prop)->c_->Prop}{c:Nat->Nat->Bool}{s:c_}(hc:∀i j C,i<n->j<n->C (c i j) s->cmp i j C s){Q:α->c_->Prop}{t:KasT α}(h:Asks n P t):Q (qM c t) s->t.kasWp cmp Q s:=by induction h with
|ret _=>exact fun q=>q
|ask h1 h2 _ ih=>exact fun q=>hc _ _ _ h1 h2 (ih _ q)
def gj(n:Nat)(p:Array Nat):Prop:=p.toList.Perm (e_ n)
theorem gj.bd{n:Nat}{p:Array Nat}(h:gj n p)(hn:0<n)(k:Nat):p.getD k 0<n:=by
 by_cases hk:k<p.size
 .have e:p.getD k 0=p[k]:=by simp[Array.getD,hk]
  rw[e];exact z_.mp (h.mem_iff.mp (by simp))
 .have e:p.getD k 0=0:=by simp[Array.getD,hk]
  rw[e];exact hn
theorem gj.rev{n:Nat}{p:Array Nat}(h:gj n p)(i j:Nat):gj n (kas_rev p i j):=(Qdk.mp (mirror_perm p i j ((j-i)/2))).trans h
theorem gj.bub{n:Nat}{p:Array Nat}(h:gj n p)(i j:Nat):gj n (bubble p i j):=(Qdk.mp (bubble_perm p i j)).trans h
section
variable{n:Nat}(hn:0<n)
include hn
theorem BS{p:Array Nat}(h:gj n p):∀f k,Asks n (fun _=>True) (kas_asc p f k)
|0,k=>.ret trivial
|f+1,k=>.ask (h.bd hn _) (h.bd hn _) fun b=>by cases b with
 |true=>rw[if_pos rfl];exact .ret trivial
 |false=>rw[if_neg d_];exact BS h f (k+1)
theorem wO:∀f (p:Array Nat) k q,gj n p->Asks n (fun r=>gj n r.1) (kas_desc f p k q)
|0,p,k,q,h=>.ret h
|f+1,p,k,q,h=>.ask (h.bd hn _) (h.bd hn _) fun b=>by cases b with
 |true=>
   rw[if_pos rfl];split
   .exact wO f _ _ _ (h.rev _ _)
   .exact wO f _ _ _ h
 |false=>rw[if_neg d_];refine .ask (h.bd hn _) (h.bd hn _) fun b=>?_;cases b with
  |true=>rw[if_pos rfl];exact .ret h
  |false=>rw[if_neg d_];exact wO f _ _ _ h
theorem Je{p:Array Nat}(h:gj n p)(a b:Nat):Asks n (fun r=>gj n r.2) (kas_tail3 a b p):=Asks.bind (BS hn (h.rev 0 a) _ _) fun m _=>.ret (h.rev 0 a)
theorem JS{p:Array Nat}(h:gj n p)(a b:Nat):Asks n (fun r=>gj n r.2) (kas_descPart a b p):=by
 refine Asks.bind (wO hn _ p _ _ h) fun r hr=>?_;split
 .exact Je hn (hr.rev _ _) _ _
 .exact Je hn hr _ _
theorem TZ{p:Array Nat}(h:gj n p)(a:Nat):Asks n (fun r=>gj n r.2) (kas_count a p):=by
 refine Asks.bind (BS hn h _ _) fun k _=>?_;split
 .exact .ret h
 .split
  .refine .ask (h.bd hn _) (h.bd hn _) fun b=>?_;cases b with
  |true=>rw[if_pos rfl];exact .ret h
  |false=>rw[if_neg d_];exact JS hn (h.rev _ _) _ _
  .exact JS hn h _ _
theorem Cv{p:Array Nat}(h:gj n p)(k:Nat):∀f l r,Asks n (fun _=>True) (kas_place p k f l r)
|0,l,r=>.ret trivial
|f+1,l,r=>by
  unfold kas_place;split
  .exact .ret trivial
  .refine .ask (h.bd hn _) (h.bd hn _) fun b=>?_;cases b with
  |true=>rw[if_pos rfl];exact Cv h k f _ _
  |false=>rw[if_neg d_];exact Cv h k f _ _
theorem IA:∀f (p:Array Nat) k,gj n p->Asks n (gj n) (kas_bin f p k)
|0,p,k,h=>.ret h
|f+1,p,k,h=>Asks.bind (Cv hn h k _ _ _) fun l _=>IA f _ _ (h.bub _ _)
theorem Jd:Asks n (gj n) (kas_sort n):=by
 refine Asks.bind (TZ hn (p:=List.toArray (e_ n)) (by unfold gj;simp) n) fun r hr=>?_;split
 .exact IA hn _ _ _ hr
 .exact .ret hr
end
def kN(n:Nat)(c:Nat->Nat->Bool):List Nat:=if n<2 then e_ n else(qM c (kas_sort n)).toList
theorem CN(n:Nat)(c:Nat->Nat->Bool):(kN n c).Perm (e_ n):=by
 unfold kN;split
 .exact .refl _
 .exact(Jd (n:=n) (by omega)).run c
def kC:List Int->List Int->Bool
|[],[]=>false
|[],_::_=>true
|_::_,[]=>false
|x::xs,y::ys=>if x=y then kC xs ys else decide (x<y)
def jD(fin:Bool):List (List Int)->List (List Int)->Bool
|k::ks,l::ls=>if k=l then jD fin ks ls else kC k l
|_,_=>fin
def gB(ks ls:List (List Int)):Bool:=jD (decide (ks.length<ls.length)) ks ls
end DL
namespace DL
open PySem PyProof.Rows PySem.W PySem.Calls
section
variable{prog:H_}{w:Z_}{A:Qag}{E:a_->c_->Prop}{s:c_}
theorem T9{a:Addr}{vs:List a_}{n:Nat}{P:PySem.Fin->c_->Prop}(ho:s.heap.get? a=some (Qdu "list" vs.toArray n))(h2:vs.length<2)(h:∀h' c,(∀b o,b≠a->s.heap.get? b=some o->h'.get? b=some o)->h'.get? a=some (Qdu "list" vs.toArray c)->P (.done (.ret .none)) { s with heap:=h' }):x_ (E_ prog w) A (QdL.«list.sort» ⟨[.ref a],[]⟩) P E s:=by
 have U:vs.length<=sizeLine:=by rw[Qaa];omega
 have up:=fun(h:Heap)(f:Array a_->Array a_)=>Qc2 h a (QbK f);obtain⟨e1,BT⟩:∃e1,(s.heap.update a (QbK fun _=>(#[]:Array a_))).get? a=some (Qdu "list" #[] e1):=⟨_,get?_update_seq ho fun _=>#[]⟩
 rw[list_sort_plain];refine b_ (listItems_at ho rfl (b_ (listUpdate_at ho rfl ?_ (by rw[q_];exact U) (Qaf _))));refine b_ (seqEpoch_at BT rfl (b_ (wpAny_newTuple (b_ (wpAny_newList (Qa8 ?_) (Qaf _))) (by show vs.length<=_;exact U))))
 dsimp only
 have hlt:vs.toArray.size<2:=by rw[q_];exact h2
 rw[if_pos hlt,if_pos hlt];refine b_ (n_ ?_);have Cl:(pure ():StateT SortSt Sem Unit).run (QfC general' (vs.toArray.zip vs.toArray) #[] 7 none)=pure ((),QfC general' (vs.toArray.zip vs.toArray) #[] 7 none):=rfl;rw[Cl];refine b_ (n_ ?_)
 dsimp only
 have Id:(arrOf (QfC general' (vs.toArray.zip vs.toArray) #[] 7 none)).map (·.2)=vs.toArray:=by show((vs.toArray.zip vs.toArray).map (·.2))=vs.toArray;apply Array.ext';simp[List.map_snd_zip]
 rw[Id];have Y:∀b o,(s.heap.update a (QbK fun _=>(#[]:Array a_))).get? b=some o->(((s.heap.update a (QbK fun _=>(#[]:Array a_))).push (Qdu "tuple" vs.toArray 0)).push (Qdu "list" #[] 0)).get? b=some o:=fun b o e=>i_ _ (i_ _ e);have Z:=Y _ _ BT;refine b_ (seqEpoch_at Z rfl (b_ (listUpdate_at Z rfl ?_ (Qaf _) (by rw[q_];exact Nat.le_succ_of_le U))));simp only[bne_self_eq_false,Qew,if_false];refine n_ (h _ _ (fun b o hb e=>?_) (get?_update_seq Z fun _=>vs.toArray));exact((up _ _).2 b hb).trans (Y b o (((up _ _).2 b hb).trans e))
theorem UV{l:Addr}{vs:List a_}{Q:a_->c_->Prop}(hl:s.heap.IsList l vs.toArray)(h2:vs.length<2)(h:∀h' c D,(∀b o,s.heap.get? b=some o->h'.get? b=some o)->s.heap.objs.size<=D->h'.get? D=some (Qdu "list" vs.toArray c)->Q (.ref D) { s with heap:=h' }):x_ (E_ prog w) A (call (.builtin "sorted") [.ref l]) Q E s:=by
 refine Calls.call_function_entry kind_sorted plain_sorted entry_sorted (args_sorted1 _) ?_;unfold QdL.«sorted»;refine b_ (m:=checkCount "sorted" 1 1 _) (n_ (b_ (collect_list hl ?_ (by rw[Qaa];omega))));refine b_ (wpAny_newList ?_ (by rw[Qaa];omega));generalize hH:((s.heap.push (Qdu "list" #[] 0)).update s.heap.objs.size (QbK (·++vs.toArray)))=H1;have hsz:H1.objs.size=s.heap.objs.size+1:=by rw[<-hH,Heap.size_update,size_push']
 have keep:∀b o,s.heap.get? b=some o->(H1.push (Qdu "list" vs.toArray 0)).get? b=some o:=fun b o q=>by have hlt:b<s.heap.objs.size:=w_ q;refine i_ _ ?_;rw[<-hH,Qar _ _ _ _ (S_ hlt)];exact i_ _ q
 have U:(H1.push (Qdu "list" vs.toArray 0)).get? H1.objs.size=some (Qdu "list" vs.toArray 0):=B_ _ rfl;refine b_ (Qa8 (QcM slot_list_sort ⟨_,U,rfl⟩ entry_list_sort ?_ (args_list_sort _)));refine T9 (s:={ s with heap:=H1.push (Qdu "list" vs.toArray 0) }) U h2 fun h' c kp hD=>?_;refine⟨_,rfl,n_ ⟨_,rfl,h h' c _ (fun b o e=>kp b o ?_ (keep b o e)) (by rw[hsz];exact QcU _) hD⟩⟩;rw[hsz];exact S_ (QcF (w_ e))
end
end DL
namespace DL
open PySem PySem.Spec PyProof.Rows L2 PySem.W PySem.Calls
structure Lft(fr:List Addr)(a:Addr)(oe:Obj)(vs:Array a_)(T:Option Addr)(v:a_)(h h':Heap):Prop where
 keep:∀b o,b∉fr->b≠a->T≠some b->h.get? b=some o->h'.get? b=some o
 slot:∀b o,h.get? b=some o->(∀vs:Array a_,o.data≠Data.fields vs)->∃sl,h'.get? b=some { cls:=o.cls,dict:=o.dict,data:=o.data,slots:=sl }
 obj:∃tb ot ts,(h.get? tb=none\/T=some tb)/\tb≠a/\h'.get? a=some { cls:=oe.cls,dict:=oe.dict,data:=.fields (vs.setIfInBounds 1 (.ref tb)),slots:=oe.slots }/\h'.get? tb=some ot/\ot.data=.fields ts/\ts[3]? = some v
def tZ(a:Addr)(h:Heap):Prop:=∃oe vs tb,h.get? a=some oe/\oe.data=Data.fields vs/\vs[1]? = some (Value.ref tb)
abbrev oQ(fl:Option Addr):a_:=fl.elim Value.none fun f=>Qdt f
variable{M:Qfs}{E:a_->c_->Prop}{s:c_}{a:Addr}
section
variable{A:Qag}{B:Heap}{env:Env}{outer:List Env}{L:Addr}{oe:Obj}{vs:Array a_}{Q:Unit->c_->Prop}
theorem HM{head:a_}{had:Bool}{fl:Option Addr}(hf:A.frames=some (env::outer))(ff:s.heap.FunFrames B (env::outer))(hL:env.frame=some L)(e0:s.heap.get? a=some oe)(hd:oe.data=.fields vs)(hs:1<vs.size)(q:∀h',Lft (dh (env::outer)) a oe vs none (oQ fl) s.heap h'->Q () { heap:=h',gens:=s.gens,drawn:=s.drawn,toks:=s.toks,os:=s.os }) :
  x_ M A (do
   let f <-PySem.frameOf env;let pl <-entryPlaceOf L had;let b <-Qek head f Value.none (Qdt ↑L) Value.none pl
   setField (Value.ref a) 1 b) (fun _ s'=>tZ a s'.heap/\x_ M A (Qb7 (Value.ref a) fl) Q E s') E s:=by
 have Ty:a∉dh (env::outer):=fun z=>by obtain⟨_,o,e1,nf⟩:=ff.mem z;rw[e0]at e1;cases e1;exact nf vs hd
 refine b_ (wpAny_frameOf_fun hf ff hL fun h2 so=>?_);refine b_ (wpAny_entryPlaceOf fun pl hpl=>?_);obtain⟨WW,Id,IO⟩:=so;have e2:h2.get? a=some oe:=(Id a Ty).trans e0;have key:∀fs:List a_,fs.length<=100->fs[3]? = some (Qdt ↑L)->x_ M A ((do
   let b <-newFields "traceback" fs
   setField (Value.ref a) 1 b)) (fun _ s'=>tZ a s'.heap/\x_ M A (Qb7 (Value.ref a) fl) Q E s') E { heap:=h2,gens:=s.gens,drawn:=s.drawn,toks:=s.toks,os:=s.os }:=fun fs hlen h3=>by
  refine b_ ?_;unfold newFields;have hsz:sizeOk (Data.fields fs.toArray):=by
   show fs.toArray.size<=_;have:fs.toArray.size<=100:=by simpa using hlen
   exact L_ this (by decide)
  refine QaS (T := "traceback") (data:=.fields fs.toArray) (dict:=none) ?_ hsz;have KK:a<h2.objs.size:=w_ e2;have Z:h2.get? h2.objs.size=none:=by cases z:h2.get? h2.objs.size with
  |none=>rfl
  |some o=>exact absurd (w_ z) (QaB _)
  have hne:h2.objs.size≠a:=fun z=>by rw[z]at KK;exact absurd KK (QaB _)
  generalize LT:h2.objs.size=tb at *;have e3:(h2.push { cls:=.type "traceback",dict:=none,data:=.fields fs.toArray }).get? a=some oe:=i_ _ e2;have ST:(h2.push { cls:=.type "traceback",dict:=none,data:=.fields fs.toArray }).get? tb=some { cls:=.type "traceback",dict:=none,data:=.fields fs.toArray }:=by rw[<-LT];exact B_ _ rfl
  generalize Cl:h2.push { cls:=.type "traceback",dict:=none,data:=.fields fs.toArray }=h3' at *;refine QbC (a:=a) (o:=oe) (vs:=vs) (i:=1) e3 hd hs ?_;have mf:∀g,Qah g oe={ cls:=oe.cls,dict:=oe.dict,data:=.fields (g vs),slots:=oe.slots }:=fun g=>by obtain⟨c,d,da,sl⟩:=oe;have:da=.fields vs:=hd;subst this;rfl
  have e4:=Qap (h:=h3') (Qah fun v=>v.setIfInBounds 1 (.ref tb)) e3 (by rw[mf];rfl);rw[mf]at e4;have BT:(h3'.update a (Qah fun v=>v.setIfInBounds 1 (.ref tb))).get? tb=some { cls:=.type "traceback",dict:=none,data:=.fields fs.toArray }:=by rw[Qar _ _ _ _ hne];exact ST
  have LE:∀b,b≠a->(h3'.update a (Qah fun v=>v.setIfInBounds 1 (.ref tb))).get? b=h3'.get? b:=fun b hb=>Qar _ _ _ _ hb;generalize h3'.update a (Qah fun v=>v.setIfInBounds 1 (.ref tb))=h4 at *;refine⟨⟨_,_,tb,e4,rfl,U_ hs⟩,?_⟩;unfold Qb7;refine b_ (QaI (o:={ cls:=oe.cls,dict:=oe.dict,data:=.fields (vs.setIfInBounds 1 (.ref tb)),slots:=oe.slots }) (x:=.ref tb) e4 rfl ?_ ?_)
  .rw[U_ hs]
  .rw[if_pos (by rfl)];refine QbC (a:=tb) (vs:=fs.toArray) (i:=3) BT rfl ?_ ?_
   .have:=(m_.mp h3).1;simpa using this
   have e5:=Qap (h:=h4) (Qah fun v=>v.setIfInBounds 3 (oQ fl)) BT rfl;have U:∀b,b≠tb->(h4.update tb (Qah fun v=>v.setIfInBounds 3 (oQ fl))).get? b=h4.get? b:=fun b hb=>Qar _ _ _ _ hb;refine q (h4.update tb (Qah fun v=>v.setIfInBounds 3 (oQ fl))) ⟨fun b o nf ne _ e=>?_,fun b o e nf=>?_,tb,_,_,.inl ?_,hne,?_,e5,rfl,?_⟩
   .have hb2:h2.get? b=some o:=(Id b nf).trans e;have Y:b≠tb:=fun z=>by rw[z,Z]at hb2;cases hb2
    rw[U b Y,LE b ne,<-Cl];exact i_ _ hb2
   .obtain⟨sl,e1⟩:=IO b o e;have Y:b≠tb:=fun z=>by rw[z,Z]at e1;cases e1
    have Tm:b≠a:=fun z=>by rw[z,e0]at e;cases e;exact nf vs hd
    refine⟨sl,?_⟩;rw[U b Y,LE b Tm,<-Cl];exact i_ _ e1
   .cases z:s.heap.get? tb with
   |none=>rfl
   |some o=>obtain⟨sl,e1⟩:=IO tb o z;rw[Z]at e1;cases e1
   .rw[U a (Qby hne)];exact e4
   .show(fs.toArray.setIfInBounds 3 _)[3]? = _;rw[U_ (by have:=(m_.mp h3).1;simpa using this)]
 unfold Qek;refine key _ ?_ rfl;rcases hpl with rfl|⟨x1,x2,x3,x4,x5,x6,_,rfl⟩ <;> simp
theorem vZ{T fl:Option Addr}(hf:A.frames=some (env::outer))(ff:s.heap.FunFrames B (env::outer))(hL:env.frame=some L)(e0:s.heap.get? a=some oe)(hd:oe.data=.fields vs)(h1:(vs[1]? = some Value.none/\T=none)\/(∃T' oT ts,T=some T'/\vs[1]? = some (.ref T')/\T'≠a/\s.heap.get? T'=some oT/\oT.data=.fields ts/\ts[3]? = some Value.none)\/∃T' oT ts,T=some T'/\vs[1]? = some (.ref T')/\T'≠a/\s.heap.get? T'=some oT/\oT.data=.fields ts/\ts[3]? = some (Qdt ↑L))(q:∀h',Lft (dh (env::outer)) a oe vs T (oQ fl) s.heap h'->Q () { heap:=h',gens:=s.gens,drawn:=s.drawn,toks:=s.toks,os:=s.os }):x_ M A (Qda (.ref a) env) (fun _ s'=>tZ a s'.heap/\x_ M A (Qb7 (.ref a) fl) Q E s') E s:=by
 have hs:1<vs.size:=by rcases h1 with⟨z,_⟩|⟨_,_,_,_,z,_⟩|⟨_,_,_,_,z,_⟩ <;> exact(Qaz.mp z).1
 unfold Qda;simp only[hL];rcases h1 with⟨z,rfl⟩|⟨T',oT,ts,rfl,z,hTa,eT,hT,h3⟩|⟨T',oT,ts,rfl,z,hTa,eT,hT,h3⟩
 .refine b_ (QaI e0 hd z ?_);rw[if_neg (by decide)];exact HM hf ff hL e0 hd hs q
 .refine b_ (QaI e0 hd z ?_);rw[if_pos (by rfl)];refine b_ (QaI eT hT h3 ?_);rw[if_neg (by intro z;cases z)];have U:3<ts.size:=(Qaz.mp h3).1;refine b_ (QbC eT hT U ?_);have eo:∀b,b≠T'->(s.heap.update T' (Qah fun v=>v.setIfInBounds 3 Value.none)).get? b=s.heap.get? b:=fun b hb=>Qar _ _ _ _ hb;refine HM (s:={ heap:=s.heap.update T' (Qah fun v=>v.setIfInBounds 3 Value.none),gens:=s.gens,drawn:=s.drawn,toks:=s.toks,os:=s.os }) hf (ff.of_keeps fun b o e nf=>?_) hL ((eo a (Qby hTa)).trans e0) hd hs fun h' l=>q h' ⟨fun b o nf ne Y e=>?_,fun b o e nf=>?_,?_⟩
  .have hb:b≠T':=fun z=>by rw[z,eT]at e;cases e;exact nf ts hT
   exact⟨o,(eo b hb).trans e,rfl⟩
  .have hb:b≠T':=fun z=>Y (by rw[z]);exact l.keep b o nf ne (by simp) ((eo b hb).trans e)
  .have hb:b≠T':=fun z=>by rw[z,eT]at e;cases e;exact nf ts hT
   exact l.slot b o ((eo b hb).trans e) nf
  .obtain⟨tb,ot,ts',t1,t2⟩:=l.obj;refine⟨tb,ot,ts',.inl ?_,t2⟩;have t1:=t1.resolve_right (by simp);by_cases hb:tb=T'
   .have mf:Qah (fun v=>v.setIfInBounds 3 Value.none) oT={ cls:=oT.cls,dict:=oT.dict,data:=.fields (ts.setIfInBounds 3 Value.none),slots:=oT.slots }:=by obtain⟨c,d,da,sl⟩:=oT;have:da=.fields ts:=hT;subst this;rfl
    have:=Qap (h:=s.heap) (Qah fun v=>v.setIfInBounds 3 Value.none) eT (by rw[mf];rfl);rw[hb]at t1;exact absurd (t1.symm.trans this) (by simp)
   .exact(eo tb hb).symm.trans t1
 .refine b_ (QaI e0 hd z ?_);rw[if_pos (by rfl)];refine b_ (QaI eT hT h3 ?_);rw[if_pos (by simp)];refine n_ ⟨⟨oe,vs,T',e0,hd,z⟩,?_⟩;have U:3<ts.size:=(Qaz.mp h3).1;have mf:∀g,Qah g oT={ cls:=oT.cls,dict:=oT.dict,data:=.fields (g ts),slots:=oT.slots }:=fun g=>by obtain⟨c,d,da,sl⟩:=oT;have:da=.fields ts:=hT;subst this;rfl
  unfold Qb7;refine b_ (QaI e0 hd z ?_);rw[if_pos (by rfl)];refine QbC eT hT U ?_;have eo:∀b,b≠T'->(s.heap.update T' (Qah fun v=>v.setIfInBounds 3 (oQ fl))).get? b=s.heap.get? b:=fun b hb=>Qar _ _ _ _ hb;have es:=Qap (h:=s.heap) (Qah fun v=>v.setIfInBounds 3 (oQ fl)) eT (by rw[mf];rfl);rw[mf]at es;refine q _ ⟨fun b o nf ne Y e=>(eo b fun z=>Y (by rw[z])).trans e,fun b o e nf=>?_,T',_,_,.inr rfl,hTa,?_,es,rfl,?_⟩
  .have hb:b≠T':=fun z=>by rw[z,eT]at e;cases e;exact nf ts hT
   exact⟨o.slots,(eo b hb).trans e⟩
  .rw[eo a (Qby hTa),e0];obtain⟨c,d,da,sl⟩:=oe;have:da=.fields vs:=hd;subst this;have:vs.setIfInBounds 1 (.ref T')=vs:=by
    apply Qex;intro i;rw[Array.getElem?_setIfInBounds];split
    .rename_i h;subst h;exact z.symm
    .rfl
   rw[this]
  .show(ts.setIfInBounds 3 _)[3]? = _;rw[U_ U]
theorem B7{T:Option Addr}(hf:A.frames=some (env::outer))(ff:s.heap.FunFrames B (env::outer))(hL:env.frame=some L)(e0:s.heap.get? a=some oe)(hd:oe.data=.fields vs)(h1:(vs[1]? = some Value.none/\T=none)\/(∃T' oT ts,T=some T'/\vs[1]? = some (.ref T')/\T'≠a/\s.heap.get? T'=some oT/\oT.data=.fields ts/\ts[3]? = some Value.none)\/∃T' oT ts,T=some T'/\vs[1]? = some (.ref T')/\T'≠a/\s.heap.get? T'=some oT/\oT.data=.fields ts/\ts[3]? = some (Qdt ↑L))(q:∀h',Lft (dh (env::outer)) a oe vs T Value.none s.heap h'->Q () { heap:=h',gens:=s.gens,drawn:=s.drawn,toks:=s.toks,os:=s.os }):x_ M A (leaving env (.ref a)) Q E s:=b_ (Qan (vZ (fl:=none) hf ff hL e0 hd h1 q) (fun _ _ z=>z.2) fun _ _ z=>z)
end
def Wy(h B:Heap)(a:Addr)(cls:a_)(od L:Option Addr):Prop:=∃oe vs,h.get? a=some oe/\oe.cls=cls/\(∀dx,od=some dx->oe.dict=some dx)/\oe.data=.fields vs /\(vs[1]? = some Value.none\/(∃T oT ts,vs[1]? = some (.ref T)/\B.get? T=none/\T≠a/\h.get? T=some oT/\oT.data=.fields ts/\ts[3]? = some Value.none) \/∃l T oT ts,L=some l/\vs[1]? = some (.ref T)/\B.get? T=none/\T≠a/\h.get? T=some oT/\oT.data=.fields ts/\ts[3]? = some (Qdt ↑l))
def om(st:List Env):Option Addr:=st.head?.bind (·.frame)
structure Fly(P:H_)(w:Z_)(st:List Env)(H:Hp)(s:c_)(H':Hp)(a:Addr)(cls:a_)(od:Option Addr)(s':c_):Prop where
 os:s'.os=s.os
 bare:Qcy s'.gens
 un:Un (dh st) [] H H' s.heap s'.heap
 hok:HOk P w H' s'.heap
 ex:∃B:Heap,B.StaysIn s'.heap/\B.get? a=none/\s'.heap.FunFrames B st/\Wy s'.heap B a cls od (om st) /\(∀b o,s.heap.get? b=some o->b∉dh st->∃o',B.get? b=some o')/\∀b u,H' b=some u->∃o',B.get? b=some o'
variable{X:Cx}{pz:List (Addr×Obj)}{σ:L2.St}{H:Hp}
section
variable{H':Hp}{s':c_}{cls:a_}{od:Option Addr}
theorem Fly.inv(F:Fly X.prog X.w X.stack H s H' a cls od s')(I:Inv X pz σ H s):Inv X pz σ H' s':=I.call' F.os F.un F.hok F.bare fun b z=>absurd z (by simp)
theorem Fly.leaves{Q:Unit->c_->Prop}(F:Fly X.prog X.w X.stack H s H' a cls od s')(I:Inv X pz σ H s)(Y:X.stack=X.env::X.outer)(BT:X.env.frame=some X.env.locals)(Z:X.ex=[])(q:∀s'',Fly X.prog X.w X.outer X.H₀ X.s₀ H' a cls od s''->Q () s''):x_ M X.A (leaving X.env (.ref a)) Q E s':=by
 have I':=F.inv I;obtain⟨B,hB,Id,U,⟨oe,vs,r1,r2,r3,r4,r5⟩,hd,hH⟩:=F.ex;have hfs:dh X.stack=X.env.locals::dh X.outer:=by rw[Y];unfold dh;rw[Qaw,BT]
 have inB:∀b o,X.s₀.heap.get? b=some o->b∉dh X.outer->∃o',B.get? b=some o':=fun b o e n=>by
  obtain⟨o1,e1⟩:=I.base.there b o e (by rw[Z];simp);refine hd b o1 e1 ?_;rw[hfs];intro z;rcases t_.mp z with z|z
  .have h1:=w_ e;have h2:=I.ok.above;rw[z]at h1;exact absurd h1 (Nat.not_lt.mpr h2)
  .exact n z
 rw[Y]at U;have fin:∀(T:Option Addr) h',(∀b,T=some b->B.get? b=none)->Lft (dh (X.env::X.outer)) a oe vs T Value.none s'.heap h'->Q () { heap:=h',gens:=s'.gens,drawn:=s'.drawn,toks:=s'.toks,os:=s'.os }:=fun T h' hT l=>by
  have same:∀b o,(∃o',B.get? b=some o')->s'.heap.get? b=some o->h'.get? b=some o:=fun b o ⟨o',e⟩ h=>by refine l.keep b o (fun z=>?_) (fun z=>by rw[z,Id]at e;cases e) (fun z=>by rw[hT b z]at e;cases e) h;rw[(U.mem z).1]at e;cases e
  have Cl:=(show X.env.scope.kind≠ScopeKind.module/\(∃L o,X.env.frame=some L/\B.get? L=none/\s'.heap.get? L=some o/\∀(vs:Array a_),o.data≠Data.fields vs)/\s'.heap.FunFrames B X.outer by unfold QcG at U;exact U).2.2;have ho:h'.FunFrames B X.outer:=Cl.of_keeps fun b o e nf=>by obtain⟨sl,e1⟩:=l.slot b o e nf;exact⟨_,e1,rfl⟩
  obtain⟨tb,ot,ts,t1,t2,t3,t4,t5,t6⟩:=l.obj;have LE:B.get? tb=none:=by
   rcases t1 with t1|t1
   .cases z:B.get? tb with
   |none=>rfl
   |some o=>have:=hB tb o z;rw[t1]at this;cases this
   .exact hT tb t1
  have KK:1<vs.size:=by rcases r5 with z|⟨_,_,_,z,_⟩|⟨_,_,_,_,_,z,_⟩ <;> exact(Qaz.mp z).1
  refine q _ ⟨I'.os,F.bare,⟨fun b o e n f z=>?_,fun b o e n f z=>?_,fun b o e n z=>?_,fun b o e z=>?_,I'.base.tups,I'.base.frzs,I'.base.tbls⟩,fun b u e=>?_,B,fun b o e=>same b o ⟨o,e⟩ (hB b o e),Id,ho,⟨_,_,t3,r2,r3,rfl,.inr (.inl ⟨tb,ot,ts,U_ KK,LE,t2,t4,t5,t6⟩)⟩,inB,hH⟩
  .exact same b o (inB b o e f) (I'.base.keep b o e n f (by rw[Z];exact z))
  .obtain⟨sl,e1⟩:=I'.base.slot b o e n f (by rw[Z];exact z);obtain⟨_,o2,e2,nf⟩:=Cl.mem f;rw[e1]at e2;cases e2;obtain⟨IO,e3⟩:=l.slot b _ e1 nf;exact⟨IO,e3⟩
  .exact I'.base.free b o e n (by rw[Z];exact z)
  .obtain⟨o1,e1⟩:=I'.base.there b o e (by rw[Z];exact z);by_cases f:b∈dh X.outer
   .obtain⟨_,o2,e2,nf⟩:=Cl.mem f;obtain⟨sl,e3⟩:=l.slot b _ e2 nf;exact⟨_,e3⟩
   .exact⟨o1,same b o1 (inB b o e f) e1⟩
  .refine(F.hok b u e).stay (fun c v hc e1=>same c v ?_ e1) (fun _ z=>z) fun _ _ z=>z;rcases hc with hc|hc
   .rw[hc];exact hH b u e
   .exact hH c _ hc
 rcases r5 with z|⟨T,oT,ts,z1,z2,z3,z4,z5,z6⟩|⟨l,T,oT,ts,zl,z1,z2,z3,z4,z5,z6⟩
 .exact B7 (T:=none) (by rw[I.ok.frames,Y]) U BT r1 r4 (.inl ⟨z,rfl⟩) fun h' l=>fin none h' (fun b e=>nomatch e) l
 .exact B7 (T:=some T) (by rw[I.ok.frames,Y]) U BT r1 r4 (.inr (.inl ⟨T,oT,ts,rfl,z1,z3,z4,z5,z6⟩)) fun h' l=>fin (some T) h' (fun b e=>by cases e;exact z2) l
 .have hl:l=X.env.locals:=by unfold om at zl;rw[Y]at zl;exact(J_ (BT.symm.trans (show X.env.frame=some l from zl))).symm
  subst hl;exact B7 (T:=some T) (by rw[I.ok.frames,Y]) U BT r1 r4 (.inr (.inr ⟨T,oT,ts,rfl,z1,z3,z4,z5,z6⟩)) fun h' l=>fin (some T) h' (fun b e=>by cases e;exact z2) l
end
def mq(P:H_)(w:Z_):jJ:=fun outer H s E e s'=>∃a cls H' od,e=.ref a/\Fly P w outer H s H' a cls od s'/\E cls od H'
theorem uR{P:H_}{w:Z_}{H:Hp}{h:Heap}{a:Addr}{o:HO}(x:cY P w H h a o):∃u,h.get? a=some u:=by cases o with
|lst xs=>obtain⟨_,_,_,_,e⟩:=x;exact⟨_,e⟩
|tup xs=>obtain⟨_,_,_,_,o,e,_⟩:=x;exact⟨_,e⟩
|dK kvs=>obtain⟨_,_,_,_,o,_,_,e,_⟩:=x;exact⟨_,e⟩
|dT kvs=>obtain⟨_,_,_,_,o,_,_,e,_⟩:=x;exact⟨_,e⟩
|set S n=>obtain⟨o,_,_,_,e,_⟩:=x;exact⟨_,e⟩
|ins C dx fs=>obtain⟨_,_,_,e,_⟩:=x;exact⟨_,e⟩
|own y=>exact x
|xd fs=>obtain⟨_,⟨_,_,_,e,_⟩,_⟩:=x;exact⟨_,e⟩
|rng lo hi=>obtain⟨_,_,_,e⟩:=x;exact⟨_,e⟩
|frz ob u=>obtain⟨e,_⟩:=x;exact⟨_,e⟩
|tbl ps=>exact⟨_,(show h.get? a=some _ from x)⟩
|met f y=>exact⟨_,(show h.get? a=some _ from x)⟩
|ext φ=>exact x.2.1
abbrev fO:List a_:=[Value.type "ValueError",Value.type "Exception",Value.type "BaseException",Value.type "object"]
theorem BM{h:Heap}{U bm:List a_}{v:a_}(t:QdS h U bm)(hb:U.contains v=true):bm.contains v=true:=by induction t with
|base=>exact hb
|own _ _ _ _ ih=>rw[Qcq,ih,QdT]
theorem O1{K:W.Frag}{h:Heap}{C:Addr}{U:List a_}{newId:String}(k:K.In h)(e:excIn K C U newId=true):∃bm N nm q bs hdct sn sub ab col dd k0 k1 k2 k3 k5 mN,h.get? C=some (QaZ nm q C N bs bm hdct sn sub ab col dd k0 k1 k2 k3 k5 newId)/\h.Ns N mN/\mN (C_ "__init__")=none/\QdS h U bm:=by
 unfold excIn at e;split at e
 .rename_i dict cd sl hk;split at e
  .rename_i C' bm k0 k1 k2 k3 n k5 hm hs;simp only[M_,beq_iff_eq,QbT]at e;obtain⟨⟨⟨⟨⟨rfl,rfl⟩,hd⟩,ht⟩,hn⟩,hi⟩:=e;have Z:=QfD k hn;obtain⟨nm,bs,mro,ns,q,hdct,sn,sub,ab,col,Y⟩:=cd;have e1:mro=Value.ref C'::bm:=hm;have e2:Y=false:=hd;subst e1 e2;have e3:sl = #[k0,k1,k2,k3,some (Value.builtin n),k5]:=by cases sl with
   |mk l=>exact congrArg Array.mk hs
   subst e3;exact⟨bm,ns,nm,q,bs,hdct,sn,sub,ab,col,dict,k0,k1,k2,k3,k5,h.nsMap ns,k _ _ hk,QdZ Z,nsMap_none_of_in k hn hi,tail_of_in k ht⟩
  .cases e
 .cases e
structure XC(K:W.Frag)(mg:Str->Option a_)(x:Str)(C:Addr):Prop where
 bound:mg x=some (.ref C)
 exc:excIn K C fO "ValueError.__new__" = true
section
variable{x:Str}{C:Addr}{np cpos pos:Pos}{e₀:Expr}{rest:List Expr}{t:TA}
theorem Fly.made{h':Heap}{e:Addr}{cls:a_}{vs:List a_}(I:Inv X pz σ H s)(m:s.heap.MadeExcOf h' e cls vs):Fly X.prog X.w X.stack H s H e cls none { heap:=h',gens:=s.gens,drawn:=s.drawn,toks:=s.toks,os:=s.os }:=by
 obtain⟨t,m1,m2,m3⟩:=m.there;have U:∀b o,(QeT s.heap (dh X.stack)).get? b=some o->h'.get? b=some o:=fun b o e=>m.keeps b o (QfE _ e);refine⟨rfl,I.bare,Un.kept m.keeps,I.hok.kept m.keeps,QeT s.heap (dh X.stack),U,?_,?_,⟨_,_,m1,rfl,(fun _ e=>nomatch e),rfl,.inl rfl⟩,fun b o e n=>⟨o,Qea _ e n⟩,fun b u e=>?_⟩
 .cases q:(QeT s.heap (dh X.stack)).get? e with
 |none=>rfl
 |some o=>have:=QfE _ q;rw[m.new]at this;cases this
 .have ff:=I.stack;have key:∀l:List Env,(∀b∈dh l,b∈dh X.stack)->s.heap.FunFrames X.base l->h'.FunFrames (QeT s.heap (dh X.stack)) l:=by
   intro l
   induction l with
  |nil=>intro _ _;unfold QcG;trivial
  |cons env l ih=>
    intro hs hf;unfold QcG at hf ⊢;obtain⟨f1,⟨L,o,f2,f3,f4,f5⟩,f6⟩:=hf;refine⟨f1,⟨L,o,f2,QeU _ (hs L ?_),m.keeps _ _ f4,f5⟩,ih (fun b hb=>hs b ?_) f6⟩
    .unfold dh;rw[Qaw,f2];exact j_
    .unfold dh;rw[Qaw,f2];exact k_ _ hb
  exact key X.stack (fun _ hb=>hb) ff
 .obtain⟨o,eo⟩:=uR (I.hok b u e);exact⟨o,Qea _ eo fun z=>by rw[I.stkFree b z]at e;cases e⟩
theorem Sg{Q:Flow->c_->Prop}(I:Inv X pz σ H s)(hc:X.calm=true)(c:XC X.K X.mg x C)(hg:Gl X x)(ha:PA X (e₀::rest) t)(h:t σ H fun vs H1=>vs.length<=sizeLine/\∀s1 a s',Inv X pz σ H1 s1->Fly X.prog X.w X.stack H1 s1 H1 a (.ref C) none s'->X.xe (.ref a) s')(U:(x==("__debug__" : Str))=false:=by decide)(he:h_ (e₀::rest) X.env=(false,eval e₀ X.env)::h_ rest X.env:=by rfl)(hpl:(backTo cpos (h_ rest X.env)).any (·.1)=false:=by rfl):x_ (E_ X.prog X.w) X.A (exec (.Raise (some (.Call (.Name x np) (e₀::rest) [] cpos)) none pos) X.env) Q X.xe s:=by
 obtain⟨bm,N,nm,q,bs,hdct,sn,sub,ab,col,dd,k0,k1,k2,k3,k5,mN,c1,c2,c3,c4⟩:=O1 I.ok.mod.kin c.exc;refine wpAny_Raise_call_subT (nm:=nm) (q:=q) (C:=C) (N:=N) (bs:=bs) (bm:=bm) (hdct:=hdct) (sn:=sn) (sub:=sub) (ab:=ab) (col:=col) (dd:=dd) (k0:=k0) (k1:=k1) (k2:=k2) (k3:=k3) (k5:=k5) (mN:=mN) F.excBase_ValueError (BM c4 (by decide+kernel)) (I.ok.hd hc) ?_ c3 ?_
 .rw[he];exact hpl
 refine j9 I hg c.bound ⟨rfl,?_⟩ U;rw[he];refine evalArgs_plain ?_;have hp:=ha cpos pz s σ H _ I h;rw[he]at hp;refine bR hp fun us s1 ⟨vs,H1,I1,r,hl,q⟩=>⟨rfl,?_,I1.bk _ _ c1,?_,?_,fun h' e m=>q s1 e _ I1 (Fly.made I1 m)⟩
 .show us.length<=sizeLine;rw[<-r.length];exact hl
 .exact c2.keeps I1.bk
 .exact c4.keeps I1.bk
end
end DL
namespace DL
open PySem PySem.Spec PyProof.Rows L2
inductive D where
 |non|bl (b:Bool)|int (i:Int)|str (x:Str)
 |tup (ds:List D)|lst (ds:List D)
 |dic (kvs:List (bJ×D))
 |obj (c:Nat) (fs:List (Str×D))
instance:Inhabited D:=⟨.non⟩
inductive Res(α:Type) where
 |ok (a:α)|exc (x:D)|stuck
def Res.bind{α β:Type}(r:Res α)(f:α->Res β):Res β:=match r with
|.ok a=>f a
|.exc x=>.exc x
|.stuck=>.stuck
@[simp] theorem bind_ok{α β:Type}(a:α)(f:α->Res β):(Res.ok a).bind f=f a:=rfl
def fin{α:Type}(r:Res α)(q:α->Prop)(x:D->Prop):Prop:=match r with
|.ok a=>q a
|.exc e=>x e
|.stuck=>False
theorem cJ{α:Type}{r:Res α}{q q':α->Prop}{x:D->Prop}(h:fin r q x)(hq:∀a,q a->q' a):fin r q' x:=by cases r with
|ok a=>exact hq a h
|exc e=>exact h
|stuck=>exact h
theorem cN{α β:Type}{r:Res α}{f:α->Res β}{q:β->Prop}{x:D->Prop}(h:fin (r.bind f) q x):fin r (fun a=>fin (f a) q x) x:=by cases r with
|ok a=>exact h
|exc e=>exact h
|stuck=>exact h
abbrev GH:=Addr->Option D
inductive Scl:V->D->Prop where
 |non:Scl .non .non
 |bl (b:Bool):Scl (.bl b) (.bl b)
 |int (i:Int):Scl (.int i) (.int i)
 |str (x:Str):Scl (.str x) (.str x)
inductive KC(K:W.Frag)(a:Addr):D->Prop where
|lst {xs:List V} {ds:List D}:cX K (fun _=>none) a xs->Paired Scl xs ds->KC K a (.lst ds)
|tup {xs:List V} {ds:List D}:dG K (fun _=>none) a xs->Paired Scl xs ds->(∃o,K.lookup a=some o/\o.cls=.type "tuple"/\o.dict=none)->KC K a (.tup ds)
inductive RG(K:W.Frag)(G:GH):V->D->Prop where
 |scl {v:V} {d:D}:Scl v d->RG K G v d
 |ref {a:Addr} {d:D}:G a=some d->RG K G (.ref a) d
 |kc {a:Addr} {d:D}:KC K a d->RG K G (.ref a) d
abbrev dB(K:W.Frag)(G:GH):List V->List D->Prop:=Paired (RG K G)
abbrev fj(K:W.Frag)(G:GH):List (bJ×V)->List (bJ×D)->Prop:=Paired fun p q=>p.1=q.1/\RG K G p.2 q.2
abbrev xD(nm:Str)(ds:List (Str×D)):D:=.obj 0 (("__class__",.str nm)::ds)
def XN(K:W.Frag)(nm:Str)(C:Addr):Prop:=∃o cd,K.lookup C=some o/\o.data=Data.cls cd/\cd.name=nm
def lh(a C:Addr)(od:Option Addr):Heap->Prop:=fun h=>∃oe vs,h.get? a=some oe/\oe.cls=.ref C/\(∀dx,od=some dx->oe.dict=some dx)/\oe.data=.fields vs
def XF(G:GH)(od:Option Addr)(ds:List (Str×D)):Prop:=match od with
|none=>ds=[]
|some dx=>G dx=some (.obj 1 ds)
theorem XF.mono{G G':GH}{od:Option Addr}{ds:List (Str×D)}(h:XF G od ds)(ge:∀a d,G a=some d->G' a=some d):XF G' od ds:=by cases od with
|none=>exact h
|some dx=>exact ge _ _ h
abbrev iq(K:W.Frag)(G:GH):List (Str×V)->List (Str×D)->Prop:=Paired fun p q=>p.1=q.1/\RG K G p.2 q.2
abbrev iD(nm:Str)(ds:List (Str×D)):D:=.obj 2 (("__class__",.str nm)::ds)
inductive OB(K:W.Frag)(G:GH)(H:Hp)(a:Addr):D->Prop where
 |lst {xs:List V} {ds:List D}:Rd H a (.lst xs)->dB K G xs ds->OB K G H a (.lst ds)
 |tup {xs:List V} {ds:List D}:Rd H a (.tup xs)->dB K G xs ds->OB K G H a (.tup ds)
 |dic {ob:Obj} {ps:List (bJ×V)} {kvs:List (bJ×D)}:H a=some (.frz ob (.dK ps))->fj K G ps kvs->OB K G H a (.dic kvs)
 |exc {nm:Str} {C:Addr} {od:Option Addr} {ds:List (Str×D)}:H a=some (.ext (lh a C od))->XN K nm C->XF G od ds->OB K G H a (xD nm ds)
 |fld {fs:List (Str×V)} {ds:List (Str×D)}:H a=some (.xd fs)->iq K G fs ds->OB K G H a (.obj 1 ds)
 |ins {nm:Str} {C dx:Addr} {fs:List (Str×V)} {ds:List (Str×D)}:H a=some (.ins C dx fs)->XN K nm C->iq K G fs ds->OB K G H a (iD nm ds)
def cp(K:W.Frag)(G:GH)(H:Hp):Prop:=∀a d,G a=some d->OB K G H a d
inductive OwnO(K:W.Frag)(G:GH)(H:Hp)(a:Addr):D->Prop where
 |lst {xs:List V} {ds:List D}:H a=some (.lst xs)->dB K G xs ds->OwnO K G H a (.lst ds)
 |dic {ps:List (bJ×V)} {kvs:List (bJ×D)}:H a=some (.dK ps)->fj K G ps kvs->OwnO K G H a (.dic kvs)
structure Own(K:W.Frag)(G:GH)(H:Hp)(a:Addr)(d:D):Prop where
 un:G a=none
 ob:OwnO K G H a d
structure Grow(K:W.Frag)(G:GH)(H:Hp)(G':GH)(H':Hp):Prop where
 ok:cp K G' H'
 he:∀a o,H a=some o->H' a=some o
 ge:∀a d,G a=some d->G' a=some d
 gf:∀a,H a≠none->G' a=G a
variable{K:W.Frag}{G G' G2:GH}{H H' H2:Hp}{d:D}{v:V}
section
variable{G1:GH}{H1:Hp}{a p:Addr}
theorem Rd.mono{u:HO}(h:Rd H a u)(he:∀a o,H a=some o->H' a=some o):Rd H' a u:=by
 rcases h with h|⟨o,h⟩
 .exact .inl (he _ _ h)
 .exact .inr ⟨o,he _ _ h⟩
theorem Rd.isS{u:HO}(h:Rd H a u):H a≠none:=by rcases h with h|⟨o,h⟩ <;> rw[h] <;> simp
theorem RG.mono(h:RG K G v d)(ge:∀a d,G a=some d->G' a=some d):RG K G' v d:=by cases h with
|scl s=>exact .scl s
|ref e=>exact .ref (ge _ _ e)
|kc k=>exact .kc k
theorem dB.mono{xs:List V}{ds:List D}(h:dB K G xs ds)(ge:∀a d,G a=some d->G' a=some d):dB K G' xs ds:=Paired.mono (fun _ _ r=>r.mono ge) h
theorem fj.mono{xs:List (bJ×V)}{ds:List (bJ×D)}(h:fj K G xs ds)(ge:∀a d,G a=some d->G' a=some d):fj K G' xs ds:=Paired.mono (fun _ _ r=>⟨r.1,r.2.mono ge⟩) h
theorem OB.mono(h:OB K G H a d)(ge:∀a d,G a=some d->G' a=some d)(he:∀o,H a=some o->H' a=some o):OB K G' H' a d:=by
 have rd:∀{u:HO},Rd H a u->Rd H' a u:=fun r=>by
  rcases r with r|⟨o,r⟩
  .exact .inl (he _ r)
  .exact .inr ⟨o,he _ r⟩
 cases h with
|lst r s=>exact .lst (rd r) (s.mono ge)
|tup r s=>exact .tup (rd r) (s.mono ge)
|dic r s=>exact .dic (he _ r) (fj.mono s ge)
|exc r n f=>exact .exc (he _ r) n (f.mono ge)
|fld r s=>exact .fld (he _ r) (Paired.mono (fun _ _ r=>⟨r.1,r.2.mono ge⟩) s)
|ins r n s=>exact .ins (he _ r) n (Paired.mono (fun _ _ r=>⟨r.1,r.2.mono ge⟩) s)
theorem OB.isS(h:OB K G H a d):H a≠none:=by cases h with
|lst r s=>exact Rd.isS r
|tup r s=>exact Rd.isS r
|dic r s=>rw[r];simp
|exc r n f=>rw[r];simp
|fld r s=>rw[r];simp
|ins r n s=>rw[r];simp
theorem cp.isN(g:cp K G H)(h:H p=none):G p=none:=by cases e:G p with
|none=>rfl
|some d=>exact absurd h (g p d e).isS
theorem OwnO.isS(h:OwnO K G H a d):H a≠none:=by cases h with
|lst r s=>rw[r];simp
|dic r s=>rw[r];simp
theorem OwnO.mono(h:OwnO K G H a d)(ge:∀a d,G a=some d->G' a=some d)(he:∀o,H a=some o->H' a=some o):OwnO K G' H' a d:=by cases h with
|lst r s=>exact .lst (he _ r) (s.mono ge)
|dic r s=>exact .dic (he _ r) (fj.mono s ge)
theorem Own.mono(h:Own K G H a d)(w:Grow K G H G' H'):Own K G' H' a d:=⟨by rw[w.gf a h.ob.isS];exact h.un,h.ob.mono w.ge fun o e=>w.he _ _ e⟩
def fz(H:Hp)(a:Addr)(ob:Obj):Hp:=match H a with
|some (.dK ps)=>aY H a (.frz ob (.dK ps))
|_=>H
theorem qx{b:Addr}{ob:Obj}(h:b≠a):fz H a ob b=H b:=by unfold fz;cases e:H a with
|none=>rfl
|some u=>cases u <;> first|rfl|exact bT h
theorem L4{xs:List V}{ob:Obj}(h:H a=some (.lst xs)):fz H a ob=H:=by unfold fz;rw[h]
theorem L3{ps:List (bJ×V)}{ob:Obj}(h:H a=some (.dK ps)):fz H a ob a=some (.frz ob (.dK ps)):=by unfold fz;rw[h];exact cV
theorem OwnO.fast(h:OwnO K G H a d)(ob:Obj):OB K G (fz H a ob) a d:=by cases h with
|lst r s=>rw[L4 r];exact .lst (.inl r) s
|dic r s=>exact .dic (L3 r) s
theorem cp.fast(g:cp K G H)(hn:G a=none)(ob:Obj):cp K G (fz H a ob):=fun b d e=>by
 have hb:b≠a:=by rintro rfl;rw[hn]at e;cases e
 exact(g b d e).mono (fun _ _ z=>z) fun o z=>by rw[qx hb];exact z
theorem Grow.refl(g:cp K G H):Grow K G H G H:=⟨g,fun _ _ e=>e,fun _ _ e=>e,fun _ _=>rfl⟩
theorem Grow.trans(x:Grow K G H G1 H1)(y:Grow K G1 H1 G2 H2):Grow K G H G2 H2:=
 ⟨y.ok,fun a o e=>y.he _ _ (x.he _ _ e),fun a d e=>y.ge _ _ (x.ge _ _ e),fun a h=>by
  have h1:H1 a≠Option.none:=by cases e:H a with
  |none=>exact absurd e h
  |some o=>rw[x.he _ _ e];simp
  rw[y.gf a h1,x.gf a h]⟩
def gset(G:GH)(a:Addr)(d:D):GH:=fun b=>if b=a then some d else G b
theorem gr:gset G a d a=some d:=if_pos rfl
theorem gN{b:Addr}(h:b≠a):gset G a d b=G b:=if_neg h
theorem jW(hn:G a=none):∀b e,G b=some e->gset G a d b=some e:=fun b e h=>by
 have:b≠a:=by rintro rfl;rw[hn]at h;cases h
 rw[gN this];exact h
theorem cp.gset(g:cp K G H)(hn:G a=none)(o:OB K G H a d):cp K (gset G a d) H:=fun b e h=>by
 by_cases hb:b=a
 .subst hb;rw[gr]at h;cases h;exact o.mono (jW hn) fun _ q=>q
 .rw[gN hb]at h;exact(g b e h).mono (jW hn) fun _ q=>q
theorem A0(hn:H p=none){o:HO}:∀a u,H a=some u->aY H p o a=some u:=fun a u e=>by rw[bT (ng e hn)];exact e
theorem Grow.new(g:cp K G H)(hn:H p=none)(o:HO):Grow K G H G (aY H p o):=⟨fun a d e=>(g a d e).mono (fun _ _ q=>q) fun u q=>A0 hn _ _ q,fun a u e=>A0 hn _ _ e,fun _ _ e=>e,fun _ _=>rfl⟩
theorem Grow.newF(g:cp K G H)(hn:H p=none){o:HO}(ob:OB K G (aY H p o) p d):Grow K G H (gset G p d) (aY H p o):=by have w:=Grow.new g hn o;have gn:=g.isN hn;exact⟨w.ok.gset gn ob,w.he,fun a e h=>jW gn a e h,fun a h=>gN (by rintro rfl;exact h hn)⟩
theorem Grow.frz(w:Grow K G H G' H')(hn:H a=none)(o:Own K G' H' a d)(ob:Obj):Grow K G H (gset G' a d) (fz H' a ob):=⟨(w.ok.fast o.un ob).gset o.un (o.ob.fast ob),fun b u e=>by rw[qx (by rintro rfl;rw[hn]at e;cases e)];exact w.he b u e,fun b e h=>jW o.un b e (w.ge b e h),fun b h=>by rw[gN (by rintro rfl;exact h hn)];exact w.gf b h⟩
theorem RG.lst{ds:List D}(g:cp K G H)(h:RG K G v (.lst ds)):∃a xs,v=.ref a/\cX K H a xs/\dB K G xs ds:=by cases h with
|scl s=>cases s
|ref e=>cases g _ _ e with
 |lst r s=>exact⟨_,_,rfl,.inl r,s⟩
|kc k=>cases k with
 |lst r s=>
   refine⟨_,_,rfl,?_,Paired.mono (fun _ _ z=>.scl z) s⟩;rcases r with(r|⟨o,r⟩)|r
   .cases r
   .cases r
   .exact .inr r
theorem RG.tup{ds:List D}(g:cp K G H)(h:RG K G v (.tup ds)):∃a xs,v=.ref a/\dG K H a xs/\dB K G xs ds:=by cases h with
|scl s=>cases s
|ref e=>cases g _ _ e with
 |tup r s=>exact⟨_,_,rfl,.inl r,s⟩
|kc k=>cases k with
 |tup r s _=>
   refine⟨_,_,rfl,?_,Paired.mono (fun _ _ z=>.scl z) s⟩;rcases r with(r|⟨o,r⟩)|r
   .cases r
   .cases r
   .exact .inr r
theorem RG.dic{kvs:List (bJ×D)}(g:cp K G H)(h:RG K G v (.dic kvs)):∃a ps,v=.ref a/\Rd H a (.dK ps)/\fj K G ps kvs:=by cases h with
|scl s=>cases s
|ref e=>cases g _ _ e with
 |dic r s=>exact⟨_,_,rfl,.inr ⟨_,r⟩,s⟩
|kc k=>cases k
theorem RG.int{i:Int}(g:cp K G H)(h:RG K G v (.int i)):v=.int i:=by cases h with
|scl s=>cases s;rfl
|ref e=>cases g _ _ e
|kc k=>cases k
theorem RG.str{x:Str}(g:cp K G H)(h:RG K G v (.str x)):v=.str x:=by cases h with
|scl s=>cases s;rfl
|ref e=>cases g _ _ e
|kc k=>cases k
theorem RG.bl{b:Bool}(g:cp K G H)(h:RG K G v (.bl b)):v=.bl b:=by cases h with
|scl s=>cases s;rfl
|ref e=>cases g _ _ e
|kc k=>cases k
theorem RG.non(g:cp K G H)(h:RG K G v .non):v=.non:=by cases h with
|scl s=>cases s;rfl
|ref e=>cases g _ _ e
|kc k=>cases k
def RB(K:W.Frag)(G:GH)(H:Hp)(v:V)(d:D):Prop:=RG K G v d\/∃a,v=.ref a/\Own K G H a d
theorem RG.rb(h:RG K G v d):RB K G H v d:=.inl h
theorem RB.mono(h:RB K G H v d)(w:Grow K G H G' H'):RB K G' H' v d:=by
 rcases h with h|⟨a,e,h⟩
 .exact .inl (h.mono w.ge)
 .exact .inr ⟨a,e,h.mono w⟩
theorem RB.lst{ds:List D}(g:cp K G H)(h:RB K G H v (.lst ds)):∃a xs,v=.ref a/\cX K H a xs/\dB K G xs ds:=by
 rcases h with h|⟨a,e,h⟩
 .exact h.lst g
 .cases h.ob with
 |lst r s=>exact⟨a,_,e,cX.of r,s⟩
theorem RB.tup{ds:List D}(g:cp K G H)(h:RB K G H v (.tup ds)):∃a xs,v=.ref a/\dG K H a xs/\dB K G xs ds:=by
 rcases h with h|⟨a,e,h⟩
 .exact h.tup g
 .cases h.ob
theorem RB.dic{kvs:List (bJ×D)}(g:cp K G H)(h:RB K G H v (.dic kvs)):∃a ps,v=.ref a/\Rd H a (.dK ps)/\fj K G ps kvs:=by
 rcases h with h|⟨a,e,h⟩
 .exact h.dic g
 .cases h.ob with
 |dic r s=>exact⟨a,_,e,.inl r,s⟩
theorem RB.int{i:Int}(g:cp K G H)(h:RB K G H v (.int i)):v=.int i:=by
 rcases h with h|⟨a,e,h⟩
 .exact h.int g
 .cases h.ob
theorem RB.str{x:Str}(g:cp K G H)(h:RB K G H v (.str x)):v=.str x:=by
 rcases h with h|⟨a,e,h⟩
 .exact h.str g
 .cases h.ob
theorem RB.bl{b:Bool}(g:cp K G H)(h:RB K G H v (.bl b)):v=.bl b:=by
 rcases h with h|⟨a,e,h⟩
 .exact h.bl g
 .cases h.ob
theorem RB.non(g:cp K G H)(h:RB K G H v .non):v=.non:=by
 rcases h with h|⟨a,e,h⟩
 .exact h.non g
 .cases h.ob
theorem Paired.get{α β:Type}{F:α->β->Prop}:∀{l:List α}{r:List β}{i:Nat}{b:β},Paired F l r->r[i]? = some b->∃a,l[i]? = some a/\F a b
|_,_,_,_,.nil,e=>by simp at e
|_,_,0,_,.cons h _,e=>by simp at e;subst e;exact⟨_,rfl,h⟩
|_,_,i+1,b,.cons _ t,e=>by obtain⟨a,h1,h2⟩:=Paired.get (i:=i) t (by simpa using e);exact⟨a,by simpa using h1,h2⟩
theorem Paired.app{α β:Type}{F:α->β->Prop}{l l':List α}{r r':List β}(h:Paired F l r)(q:Paired F l' r'):Paired F (l++l') (r++r'):=by induction h with
|nil=>exact q
|cons h _ ih=>exact .cons h ih
theorem Paired.tk{α β:Type}{F:α->β->Prop}{l:List α}{r:List β}(n:Nat)(h:Paired F l r):Paired F (l.take n) (r.take n):=by induction h generalizing n with
|nil=>cases n <;> exact .nil
|cons h _ ih=>cases n with
 |zero=>exact .nil
 |succ n=>exact .cons h (ih n)
theorem Paired.dr{α β:Type}{F:α->β->Prop}{l:List α}{r:List β}(n:Nat)(h:Paired F l r):Paired F (l.drop n) (r.drop n):=by induction h generalizing n with
|nil=>cases n <;> exact .nil
|cons h t ih=>cases n with
 |zero=>exact .cons h t
 |succ n=>exact ih n
theorem Paired.st{α β:Type}{F:α->β->Prop}{a:α}{b:β}(h:F a b){l:List α}{r:List β}(n:Nat)(p:Paired F l r):Paired F (l.set n a) (r.set n b):=by induction p generalizing n with
|nil=>exact .nil
|cons q t ih=>cases n with
 |zero=>exact .cons h t
 |succ n=>exact .cons q (ih n)
theorem Paired.er{α β:Type}{F:α->β->Prop}{l:List α}{r:List β}(n:Nat)(p:Paired F l r):Paired F (l.eraseIdx n) (r.eraseIdx n):=by induction p generalizing n with
|nil=>exact .nil
|cons q t ih=>cases n with
 |zero=>exact t
 |succ n=>exact .cons q (ih n)
end
inductive Md where
 |sh|ow|bw
 deriving DecidableEq
abbrev aQ:=List (Option D)
structure GE where
 gh:GH
 h0:Hp
 hd:Nat->Option (Option V×Option D)
def Bw(K:W.Frag)(h0:Hp)(G:GH)(H:Hp)(v:V)(d:D):Prop:=RG K G v d\/∃a,v=V.ref a/\Own K G H a d/\h0 a≠none
theorem Bw.grow{K:W.Frag}{h0:Hp}{G G':GH}{H H':Hp}{v:V}{d:D}(h:Bw K h0 G H v d)(w:Grow K G H G' H'):Bw K h0 G' H' v d:=by
 rcases h with h|⟨a,e,h1,h2⟩
 .exact .inl (h.mono w.ge)
 .exact .inr ⟨a,e,h1.mono w,h2⟩
theorem Bw.rb{K:W.Frag}{h0:Hp}{G:GH}{H:Hp}{v:V}{d:D}(h:Bw K h0 G H v d):RB K G H v d:=by
 rcases h with h|⟨a,e,h1,h2⟩
 .exact .inl h
 .exact .inr ⟨a,e,h1⟩
def Lk(r:aQ)(st:L2.St)(i:Nat)(o:Option V×Option D):Prop:=st[i]? = some o.1/\∀d,r[i]? = some (some d)->o.2=some d
structure SI(X:Cx)(g:GE)(m:List Md)(r:aQ)(G:GH)(st:L2.St)(H:Hp):Prop where
 gok:cp X.K G H
 old:∀a o,g.h0 a=some o->H a=some o
 ge:∀a d,g.gh a=some d->G a=some d
 gf:∀a,g.h0 a≠none->G a=g.gh a
 lm:m.length=st.length
 lr:r.length=st.length
 sh:∀(i:Nat) d,r[i]? = some (some d)->m[i]? = some .sh->∃v,st[i]? = some (some v)/\RG X.K G v d
 ow:∀(i:Nat) d,r[i]? = some (some d)->m[i]? = some .ow->∃a,st[i]? = some (some (V.ref a))/\Own X.K G H a d/\g.h0 a=none
 bw:∀(i:Nat) d,r[i]? = some (some d)->m[i]? = some .bw->∃v,st[i]? = some (some v)/\Bw X.K g.h0 G H v d
 dis:∀(i j:Nat) a d e,i≠j->r[i]? = some (some d)->r[j]? = some (some e)->m[i]? = some .ow->m[j]? = some .ow->st[i]? = some (some (V.ref a))->st[j]? = some (some (V.ref a))->False
 lk:∀(i:Nat) o,g.hd i=some o->m[i]? = some .bw->Lk r st i o
variable{X:Cx}{g:GE}{m:List Md}{r:aQ}
section
variable{st:L2.St}
theorem SI.grow(s:SI X g m r G st H)(w:Grow X.K G H G' H'):SI X g m r G' st H' where
 gok:=w.ok
 old:=fun a o e=>w.he _ _ (s.old a o e)
 ge:=fun a d e=>w.ge _ _ (s.ge a d e)
 gf:=fun a h=>by
  have h1:H a≠none:=by cases e:g.h0 a with
  |none=>exact absurd e h
  |some o=>rw[s.old _ _ e];simp
  rw[w.gf a h1,s.gf a h]
 lm:=s.lm
 lr:=s.lr
 sh:=fun i d h1 h2=>by obtain⟨v,h3,h4⟩:=s.sh i d h1 h2;exact⟨v,h3,h4.mono w.ge⟩
 ow:=fun i d h1 h2=>by obtain⟨a,h3,h4,h5⟩:=s.ow i d h1 h2;exact⟨a,h3,h4.mono w,h5⟩
 bw:=fun i d h1 h2=>by obtain⟨v,h3,h4⟩:=s.bw i d h1 h2;exact⟨v,h3,h4.grow w⟩
 dis:=s.dis
 lk:=s.lk
theorem SI.grown(s:SI X g m r G st H):Grow X.K g.gh g.h0 G H:=⟨s.gok,s.old,s.ge,s.gf⟩
theorem SI.frz(s:SI X g m r G st H)(i:Nat)(hi:m[i]? = some .ow):(∃G',(∀a d,G a=some d->G' a=some d)/\SI X g (m.set i .sh) r G' st H)\/∃a,∀ob,∃G',(∀a d,G a=some d->G' a=some d)/\SI X g (m.set i .sh) r G' st (fz H a ob):=by
 have hlt:i<m.length:=(m_.mp hi).1;by_cases hb:∃d,r[i]? = some (some d)
 .obtain⟨d,hd⟩:=hb;obtain⟨a,h1,h2,h3⟩:=s.ow i d hd hi;refine .inr ⟨a,fun ob=>⟨gset G a d,jW h2.un,(s.gok.fast h2.un ob).gset h2.un (h2.ob.fast ob),fun b o e=>by rw[qx (by rintro rfl;rw[h3]at e;cases e)];exact s.old b o e,fun b e h=>jW h2.un b e (s.ge b e h),fun b h=>?_,by simpa using s.lm,s.lr,?_,?_,?_,?_,fun j o hj hm=>?_⟩⟩
  .rw[gN (by rintro rfl;exact h h3)];exact s.gf b h
  .intro j e hj hm;by_cases hij:i=j
   .subst hij;rw[hd]at hj;cases hj;exact⟨_,h1,.ref gr⟩
   .rw[g_ hij]at hm;obtain⟨v,q1,q2⟩:=s.sh j e hj hm;exact⟨v,q1,q2.mono (jW h2.un)⟩
  .intro j e hj hm;by_cases hij:i=j
   .subst hij;rw[s_ hlt]at hm;cases hm
   .rw[g_ hij]at hm;obtain⟨b,q1,q2,q3⟩:=s.ow j e hj hm;have U:b≠a:=by
     rintro rfl
     exact s.dis i j b d e hij hd hj hi hm h1 q1
    exact⟨b,q1,⟨by rw[gN U];exact q2.un,q2.ob.mono (jW h2.un) fun _ z=>by rw[qx U];exact z⟩,q3⟩
  .intro j e hj hm;by_cases hij:i=j
   .subst hij;rw[s_ hlt]at hm;cases hm
   .rw[g_ hij]at hm;obtain⟨v,q1,q2⟩:=s.bw j e hj hm;refine⟨v,q1,?_⟩;rcases q2 with q2|⟨b,rfl,q2,q3⟩
    .exact .inl (q2.mono (jW h2.un))
    .have U:b≠a:=by rintro rfl;exact q3 h3
     exact .inr ⟨b,rfl,⟨by rw[gN U];exact q2.un,q2.ob.mono (jW h2.un) fun _ z=>by rw[qx U];exact z⟩,q3⟩
  .intro j k b e e' hjk hj hk hm hm' q1 q2;have hij:i≠j:=by
    rintro rfl
    rw[s_ hlt]at hm;cases hm
   have hik:i≠k:=by
    rintro rfl
    rw[s_ hlt]at hm';cases hm'
   rw[g_ hij]at hm;rw[g_ hik]at hm';exact s.dis j k b e e' hjk hj hk hm hm' q1 q2
  .refine s.lk j o hj ?_;by_cases hij:i=j
   .subst hij;rw[s_ hlt]at hm;cases hm
   .rw[g_ hij]at hm;exact hm
 .refine .inl ⟨G,fun _ _ z=>z,s.gok,s.old,s.ge,s.gf,by simpa using s.lm,s.lr,?_,?_,?_,?_,fun j o hj hm=>?_⟩
  .intro j e hj hm;have hij:i≠j:=by rintro rfl;exact hb ⟨e,hj⟩
   rw[g_ hij]at hm;exact s.sh j e hj hm
  .intro j e hj hm;have hij:i≠j:=by rintro rfl;exact hb ⟨e,hj⟩
   rw[g_ hij]at hm;exact s.ow j e hj hm
  .intro j e hj hm;have hij:i≠j:=by rintro rfl;exact hb ⟨e,hj⟩
   rw[g_ hij]at hm;exact s.bw j e hj hm
  .intro j k b e e' hjk hj hk hm hm' q1 q2;have hij:i≠j:=by rintro rfl;exact hb ⟨e,hj⟩
   have hik:i≠k:=by rintro rfl;exact hb ⟨e',hk⟩
   rw[g_ hij]at hm;rw[g_ hik]at hm';exact s.dis j k b e e' hjk hj hk hm hm' q1 q2
  .refine s.lk j o hj ?_;by_cases hij:i=j
   .subst hij;rw[s_ hlt]at hm;cases hm
   .rw[g_ hij]at hm;exact hm
end
theorem PE.imp{X:Cx}{e:Expr}{t t':TE}(h:PE X e t)(i:∀σ H Q,t' σ H Q->t σ H Q):PE X e t':=fun pz s σ H Q I q=>h pz s σ H Q I (i σ H Q q)
theorem PT.imp{X:Cx}{e:Expr}{t t':TT}(h:PT X e t)(i:∀σ H Q,t' σ H Q->t σ H Q):PT X e t':=fun pz s σ H Q I q=>h pz s σ H Q I (i σ H Q q)
theorem PW.imp{X:Cx}{e:Expr}{t t':TT}(h:PW X e t)(i:∀σ H Q,t' σ H Q->t σ H Q):PW X e t':=fun whole pz s σ H Q I q=>h whole pz s σ H Q I (i σ H Q q)
theorem PA.imp{X:Cx}{e:List Expr}{t t':TA}(h:PA X e t)(i:∀σ H Q,t' σ H Q->t σ H Q):PA X e t':=fun pos pz s σ H Q I q=>h pos pz s σ H Q I (i σ H Q q)
theorem PS.imp{X:Cx}{e:Stmt}{t t':TS}(h:PS X e t)(i:∀D σ H,t' D σ H->t D σ H):PS X e t':=fun pz s σ H D I q=>h pz s σ H D I (i D σ H q)
theorem eD.imp{X:Cx}{e:List Stmt}{t t':TS}(h:eD X e t)(i:∀D σ H,t' D σ H->t D σ H):eD X e t':=fun pz s σ H D I q=>h pz s σ H D I (i D σ H q)
def LS(X:Cx)(σ:L2.St)(G:GH)(H':Hp)(e:a_)(x:D)(s':c_):Prop:=∃pz s H1 a C od nm ds,e=.ref a/\x=xD nm ds/\XN X.K nm C/\XF G od ds/\Inv X pz σ H1 s/\Fly X.prog X.w X.stack H1 s H' a (.ref C) od s'
def XW(X:Cx)(σ:L2.St)(G:GH)(H:Hp)(x:D):Prop:=∀pz e s' G' H',Grow X.K G H G' H'->Inv X pz σ H' s'->LS X σ G' H' e x s'->X.xe e s'
theorem XW.grow{X:Cx}{σ:L2.St}{G G1:GH}{H H1:Hp}{x:D}(h:XW X σ G H x)(w:Grow X.K G H G1 H1):XW X σ G1 H1 x:=fun pz e s' G' H' w' I q=>h pz e s' G' H' (w.trans w') I q
abbrev FE:=aQ->Res D
def tE(X:Cx)(g:GE)(m:List Md)(f:FE):TE:=fun σ H Q=>∃r G,SI X g m r G σ H/\fin (f r) (fun d=>∀v G' H',Grow X.K G H G' H'->RG X.K G' v d->Q v H') (XW X σ G H)
def tB(X:Cx)(g:GE)(m:List Md)(f:FE):TE:=fun σ H Q=>∃r G,SI X g m r G σ H/\fin (f r) (fun d=>∀v G' H',Grow X.K G H G' H'->RB X.K G' H' v d->Q v H') (XW X σ G H)
def tO(X:Cx)(g:GE)(m:List Md)(f:FE):TE:=fun σ H Q=>∃r G,SI X g m r G σ H/\fin (f r) (fun d=>∀a G' H',Grow X.K G H G' H'->H a=none->Own X.K G' H' a d->Q (.ref a) H') (XW X σ G H)
def tQ(X:Cx)(g:GE)(m:List Md)(f:aQ->Res Bool):TT:=fun σ H Q=>∃r G,SI X g m r G σ H/\fin (f r) (fun b=>∀G' H',Grow X.K G H G' H'->Q b H') (XW X σ G H)
def tL(X:Cx)(g:GE)(m:List Md)(f:aQ->Res (List D)):TA:=fun σ H Q=>∃r G,SI X g m r G σ H/\fin (f r) (fun ds=>∀vs G' H',Grow X.K G H G' H'->dB X.K G' vs ds->Q vs H') (XW X σ G H)
def Eg(X:Cx)(g:GE)(m:List Md)(f:aQ->Res (List D)):TA:=fun σ H Q=>∃r G,SI X g m r G σ H/\fin (f r) (fun ds=>∀vs G' H',Grow X.K G H G' H'->Paired (RB X.K G' H') vs ds->Q vs H') (XW X σ G H)
def SE(X:Cx)(g:GE)(m:List Md)(e:Expr)(f:FE):Prop:=PE X e (tE X g m f)
def SB(X:Cx)(g:GE)(m:List Md)(e:Expr)(f:FE):Prop:=PE X e (tB X g m f)
def SO(X:Cx)(g:GE)(m:List Md)(e:Expr)(f:FE):Prop:=PE X e (tO X g m f)
def SQ(X:Cx)(g:GE)(m:List Md)(e:Expr)(f:aQ->Res Bool):Prop:=PT X e (tQ X g m f)
def SW(X:Cx)(g:GE)(m:List Md)(e:Expr)(f:aQ->Res Bool):Prop:=PW X e (tQ X g m f)
def SA(X:Cx)(g:GE)(m:List Md)(es:List Expr)(f:aQ->Res (List D)):Prop:=PA X es (tL X g m f)
def j4(X:Cx)(g:GE)(m:List Md)(es:List Expr)(f:aQ->Res (List D)):Prop:=PA X es (Eg X g m f)
variable{a e b c:Expr}{f fa fb:FE}{pos:Pos}
section
variable{fc:FE}
theorem SE.toB(h:SE X g m e f):SB X g m e f:=PE.imp h fun σ H Q ⟨r,G,si,q⟩=>⟨r,G,si,cJ q fun d k v G' H' w z=>k v G' H' w z.rb⟩
theorem Inv.fast{pz:List (Addr×Obj)}{σ:L2.St}{H:Hp}{s:c_}(I:Inv X pz σ H s)(a:Addr):∃ob,Inv X pz σ (fz H a ob) s:=by cases e:H a with
|none=>exact⟨{ cls:=.none,data:=.fields #[] },by unfold fz;rw[e];exact I⟩
|some u=>cases u with
 |dK ps=>
   obtain⟨z1,z2,vs,z3,o,es,ep,z4,z5⟩:=(show cY X.prog X.w H s.heap a (.dK ps)from I.hok a _ e)
   have ef:fz H a o=aY H a (.frz o (.dK ps)):=by unfold fz;rw[e]
   refine⟨o,?_⟩;rw[ef];exact I.write (t':=s.toks) (h':=s.heap) (x:=a) (e:=a) (by rw[e];exact trivial) (.inl rfl) (fun b u _ q=>q) ⟨o,z4⟩ (show cY X.prog X.w _ s.heap a (.frz o (.dK ps))from⟨z4,z1,z2,vs,z3,o,es,ep,z4,z5⟩)
 |_=>exact⟨{ cls:=.none,data:=.fields #[] },by unfold fz;rw[e];exact I⟩
theorem SO.toE(h:SO X g m e f):SE X g m e f:=by intro pz s σ H Q I ⟨r,G,si,q⟩;refine bR (h pz s σ H (fun v H'=>∃a,v=.ref a/\∀ob,Q v (fz H' a ob)) I ⟨r,G,si,cJ q fun d k a G' H' w hn o=>⟨a,rfl,fun ob=>k _ _ _ (w.frz hn o ob) (.ref gr)⟩⟩) fun u s' ⟨v,H',I',rv,a,_,z⟩=>?_;obtain⟨ob,I2⟩:=Inv.fast I' a;exact⟨v,_,I2,rv,z ob⟩
theorem SO.toB(h:SO X g m e f):SB X g m e f:=h.toE.toB
theorem rh{v:V}{d:D}(h:PE X e (tC v))(s:Scl v d):SE X g m e fun _=>.ok d:=PE.imp h fun σ H Q ⟨r,G,si,q⟩=>q v G H (Grow.refl si.gok) (.scl s)
theorem nA{i:Int}{j}:SE X g m (.Constant (.int i) j pos) fun _=>.ok (.int i):=rh MO (.int i)
theorem dN{i:Bool}{j}:SE X g m (.Constant (.bool i) j pos) fun _=>.ok (.bl i):=rh VP (.bl i)
theorem jo{j}:SE X g m (.Constant .none j pos) fun _=>.ok .non:=rh MQ .non
theorem kM{i:Str}{j}:SE X g m (.Constant (.str i) j pos) fun _=>.ok (.str i):=rh FF (.str i)
def fZ(r:aQ)(i:Nat):Res D:=match r[i]? with
|some (some d)=>.ok d
|_=>.stuck
theorem vV{r:aQ}{i:Nat}{q:D->Prop}{x:D->Prop}(h:fin (fZ r i) q x):∃d,r[i]? = some (some d)/\q d:=by
 unfold fZ at h;split at h
 .rename_i d e;exact⟨d,e,h⟩
 .exact h.elim
theorem V3(i:Nat){x:Str}(hm:m[i]? = some .sh)(hN:X.N[i]? = some x)(hv:iY X.env.scope x)(hd:(x==("__debug__" : Str))=false:=by decide)(U:(x==("__classdict__" : Str))=false:=by decide):SE X g m (.Name x pos) fun r=>fZ r i:=by refine PE.imp (jR hN hv hd U) fun σ H Q ⟨r,G,si,q⟩=>?_;obtain⟨d,e,k⟩:=vV q;obtain⟨v,e1,e2⟩:=si.sh i d e hm;exact⟨v,e1,k v G H (Grow.refl si.gok) e2⟩
theorem Oe(i:Nat){x:Str}(hm:i<m.length)(hN:X.N[i]? = some x)(hv:iY X.env.scope x)(hd:(x==("__debug__" : Str))=false:=by decide)(U:(x==("__classdict__" : Str))=false:=by decide):SB X g m (.Name x pos) fun r=>fZ r i:=by refine PE.imp (jR hN hv hd U) fun σ H Q ⟨r,G,si,q⟩=>?_;obtain⟨d,e,k⟩:=vV q;have hm':m[i]? = some m[i]:=f_ hm;cases h:m[i]with
|sh=>obtain⟨v,e1,e2⟩:=si.sh i d e (hm'.trans (by rw[h]));exact⟨v,e1,k v G H (Grow.refl si.gok) e2.rb⟩
|ow=>obtain⟨v,e1,e2,_⟩:=si.ow i d e (hm'.trans (by rw[h]));exact⟨_,e1,k _ G H (Grow.refl si.gok) (.inr ⟨v,rfl,e2⟩)⟩
|bw=>obtain⟨v,e1,e2⟩:=si.bw i d e (hm'.trans (by rw[h]));exact⟨_,e1,k _ G H (Grow.refl si.gok) e2.rb⟩
theorem N7{x:Str}{v:V}{u:a_}{d:D}(hg:Gl X x)(hm:X.mg x=some u)(r:bH v u)(s:Scl v d)(hd:(x==("__debug__" : Str))=false:=by decide):SE X g m (.Name x pos) fun _=>.ok d:=rh (Be hg hm r hd) s
theorem ou{β:Type}{k:D->D->Res β}{q:β->Prop}{R:V->V->Hp->Prop}{r:aQ}{G:GH}{σ:L2.St}{H:Hp}(si:SI X g m r G σ H)(h:fin ((fa r).bind fun d1=>(fb r).bind fun d2=>k d1 d2) q (XW X σ G H))(hk:∀d1 d2 v1 v2 G2 H2,Grow X.K G H G2 H2->RB X.K G2 H2 v1 d1->RB X.K G2 H2 v2 d2->fin (k d1 d2) q (XW X σ G H)->R v1 v2 H2):tB X g m fa σ H fun v1 H1=>tB X g m fb σ H1 fun v2 H2=>R v1 v2 H2:=by refine⟨r,G,si,cJ (cN h) fun d1 h1 v1 G1 H1 w1 r1=>⟨r,G1,si.grow w1,?_⟩⟩;cases e:fb r with
|ok d2=>rw[e]at h1;exact fun v2 G2 H2 w2 r2=>hk d1 d2 v1 v2 G2 H2 (w1.trans w2) (r1.mono w2) r2 h1
|exc x=>rw[e]at h1;exact(show XW X σ G H x from h1).grow w1
|stuck=>rw[e]at h1;exact h1
def fA{α:Type}:Option α->Res α
|some a=>.ok a
|none=>.stuck
@[simp] theorem opt_some{α:Type}(a:α):fA (some a)=.ok a:=rfl
theorem dU{α:Type}{o:Option α}{q:α->Prop}{x:D->Prop}(h:fin (fA o) q x):∃a,o=some a/\q a:=by cases o with
|none=>exact h.elim
|some a=>exact⟨a,rfl,h⟩
def gb(K:W.Frag)(r:R2)(k:D->D->Option D):Prop:=∀(G:GH)(H:Hp)(v1 v2:V)(d1 d2 d:D)(Q:VK),cp K G H->RB K G H v1 d1->RB K G H v2 d2->k d1 d2=some d ->(∀v G' H',Grow K G H G' H'->RG K G' v d->Q v H')->r v1 v2 H Q
def f2(fa fb:FE)(k:D->D->Option D):FE:=fun r=>(fa r).bind fun d1=>(fb r).bind fun d2=>fA (k d1 d2)
theorem As{R:R2}{k:D->D->Option D}(ho:gb X.K R k)(h:PE X e (sI R (tB X g m fa) (tB X g m fb))):SE X g m e (f2 fa fb k):=by refine PE.imp h fun σ H Q ⟨r,G,si,q⟩=>?_;refine ou si q fun d1 d2 v1 v2 G2 H2 w r1 r2 q2=>?_;obtain⟨d,e,q2⟩:=dU q2;exact ho G2 H2 v1 v2 d1 d2 d Q w.ok r1 r2 e fun v G' H' w' z=>q2 v G' H' (w.trans w') z
theorem lq{op:Operator}{R:R2}{k:D->D->Option D}(hr:cM X (Qbc op) R)(ho:gb X.K R k)(ha:SB X g m a fa)(hb:SB X g m b fb):SE X g m (.BinOp a op b pos) (f2 fa fb k):=As ho (Ff hr ha hb)
theorem AB{op:CmpOp}{R:R2}{k:D->D->Option D}(hr:cM X (Qak op) R)(ho:gb X.K R k)(ha:SB X g m a fa)(hb:SB X g m b fb)(hm:Qbt op b=false):SE X g m (.Compare a [op] [b] pos) (f2 fa fb k):=As ho (Qe hr ha hb hm)
def qi:D->Option Bool
|.bl b=>some b
|_=>none
def bW(f:FE):aQ->Res Bool:=fun r=>(f r).bind fun d=>fA (qi d)
theorem mw{op:CmpOp}{R:R2}{k:D->D->Option D}(hr:cM X (Qak op) R)(ho:gb X.K R k)(ha:SB X g m a fa)(hb:SB X g m b fb)(hm:Qbt op b=false):SQ X g m (.Compare a [op] [b] pos) (bW (f2 fa fb k)):=by
 refine PT.imp (PP hr ha hb hm) fun σ H Q ⟨r,G,si,q⟩=>?_;have e:bW (f2 fa fb k) r=(fa r).bind fun d1=>(fb r).bind fun d2=>(fA (k d1 d2)).bind fun d=>fA (qi d):=by unfold bW f2;cases fa r with
 |ok d1=>cases fb r <;> rfl
 |exc _=>rfl
 |stuck=>rfl
 rw[e]at q;refine ou (R:=fun x y H2=>R x y H2 fun x H'=>∃k,x=V.bl k/\Q k H') si q fun d1 d2 v1 v2 G2 H2 w r1 r2 q3=>?_;obtain⟨d,e,q3⟩:=dU (cN q3);obtain⟨b,eb,q3⟩:=dU q3;cases d with
|bl b'=>cases eb;exact ho G2 H2 v1 v2 d1 d2 _ _ w.ok r1 r2 e fun v G' H' w' z=>⟨_,z.bl w'.ok,q3 G' H' (w.trans w')⟩
|_=>cases eb
end
instance decMul(i j:Int):Decidable (i5 i j):=by unfold i5;infer_instance
instance decDiv(i j:Int):Decidable (jL i j):=by unfold jL;infer_instance
instance decPow(i j:Int):Decidable (jK i j):=by unfold jK;infer_instance
def o9(k:Int->Int->D):D->D->Option D
|.int a,.int b=>some (k a b)
|_,_=>none
def kK(C:Int->Int->Prop)[∀a b,Decidable (C a b)](k:Int->Int->D):D->D->Option D
|.int a,.int b=>if C a b then some (k a b)else none
|_,_=>none
@[simp] theorem intsC_int(C:Int->Int->Prop)[∀a b,Decidable (C a b)](k:Int->Int->D)(a b:Int):kK C k (.int a) (.int b)=if C a b then some (k a b)else none:=rfl
theorem nM{gv:Int->Int->V}{gd:Int->Int->D}(hs:∀i j,Scl (gv i j) (gd i j)):gb K (la gv) (o9 gd):=by
 intro G H v1 v2 d1 d2 d Q g r1 r2 e q;unfold o9 at e;split at e
 .cases e;exact⟨_,_,r1.int g,r2.int g,q _ G H (Grow.refl g) (.scl (hs _ _))⟩
 .cases e
theorem pQ{C:Int->Int->Prop}[∀a b,Decidable (C a b)]{gv:Int->Int->V}{gd:Int->Int->D}(hs:∀i j,Scl (gv i j) (gd i j)):gb K (rI C gv) (kK C gd):=by
 intro G H v1 v2 d1 d2 d Q g r1 r2 e q;unfold kK at e;split at e
 .split at e
  .rename_i hc;cases e;exact⟨_,_,r1.int g,r2.int g,hc,q _ G H (Grow.refl g) (.scl (hs _ _))⟩
  .cases e
 .cases e
abbrev iP:D->D->Option D:=o9 fun a b=>.int (a-b)
abbrev dS:D->D->Option D:=kK i5 fun a b=>.int (a*b)
abbrev jO:D->D->Option D:=kK jL fun a b=>.int (a/b)
abbrev cQ:D->D->Option D:=kK (fun _ b=>0<b) fun a b=>.int (a%b)
abbrev kA:D->D->Option D:=kK jK fun a b=>.int (a^b.toNat)
abbrev jh:D->D->Option D:=o9 fun a b=>.bl (decide (a<b))
abbrev EC:D->D->Option D:=o9 fun a b=>.bl (decide (a<=b))
abbrev jj:D->D->Option D:=o9 fun a b=>.bl (decide (b<a))
variable{p q:FQ}{es:List Expr}{fl:aQ->Res (List D)}
section
variable{fc:FE}
theorem Au(ha:SB X g m a fa)(hb:SB X g m b fb):SE X g m (.BinOp a .Sub b pos) (f2 fa fb iP):=lq MJ (nM fun _ _=>.int _) ha hb
theorem mL(ha:SB X g m a fa)(hb:SB X g m b fb):SE X g m (.BinOp a .Mult b pos) (f2 fa fb dS):=lq MG (pQ fun _ _=>.int _) ha hb
theorem ra(ha:SB X g m a fa)(hb:SB X g m b fb):SE X g m (.BinOp a .FloorDiv b pos) (f2 fa fb jO):=lq OQ (pQ fun _ _=>.int _) ha hb
theorem iy(ha:SB X g m a fa)(hb:SB X g m b fb):SE X g m (.BinOp a .Mod b pos) (f2 fa fb cQ):=lq No (pQ fun _ _=>.int _) ha hb
theorem V1(ha:SB X g m a fa)(hb:SB X g m b fb):SE X g m (.BinOp a .Pow b pos) (f2 fa fb kA):=lq MH (pQ fun _ _=>.int _) ha hb
theorem ox(ha:SB X g m a fa)(hb:SB X g m b fb):SE X g m (.Compare a [.Lt] [b] pos) (f2 fa fb jh):=AB Ak (nM fun _ _=>.bl _) ha hb (lA _)
theorem sP(ha:SB X g m a fa)(hb:SB X g m b fb):SE X g m (.Compare a [.Gt] [b] pos) (f2 fa fb jj):=AB Fj (nM fun _ _=>.bl _) ha hb (lA _)
theorem lZ(ha:SB X g m a fa)(hb:SB X g m b fb):SQ X g m (.Compare a [.Lt] [b] pos) (bW (f2 fa fb jh)):=mw Ak (nM fun _ _=>.bl _) ha hb (lA _)
theorem jy(ha:SB X g m a fa)(hb:SB X g m b fb):SQ X g m (.Compare a [.Gt] [b] pos) (bW (f2 fa fb jj)):=mw Fj (nM fun _ _=>.bl _) ha hb (lA _)
def f1(fa:FE)(k:D->Option D):FE:=fun r=>(fa r).bind fun d=>fA (k d)
def tj:D->Option D
|.int a=>some (.int (-a))
|_=>none
theorem VZ(ha:SB X g m a fa):SE X g m (.UnaryOp .USub a pos) (f1 fa tj):=by
 refine PE.imp (VT NN ha) fun σ H Q ⟨r,G,si,q⟩=>⟨r,G,si,cJ (cN q) fun d q1 v G1 H1 w1 r1=>?_⟩
 obtain⟨d',e,q2⟩:=dU q1;cases d with
|int i=>cases e;exact⟨i,r1.int w1.ok,q2 _ G1 H1 w1 (.scl (.int _))⟩
|_=>cases e
def lS:D->Option Bool
|.non=>some false
|.bl b=>some b
|.int i=>some (i != 0)
|.str y=>if y.length<=sizeLine then some ((y.length:Int) != 0)else none
|.lst ds=>some (! ds.isEmpty)
|.tup ds=>some (! ds.isEmpty)
|.dic kvs=>some (! kvs.isEmpty)
|.obj _ _=>none
theorem B5{α β:Type}{F:α->β->Prop}{l:List α}{r:List β}(h:Paired F l r):l.isEmpty=r.isEmpty:=by cases h <;> rfl
theorem Py{K:W.Frag}{G:GH}{H:Hp}{v:V}{d:D}{b:Bool}(gk:cp K G H)(h:RB K G H v d)(e:lS d=some b):oV K v H b:=by cases d with
|non=>cases e;rw[h.non gk];rfl
|bl b'=>cases e;rw[h.bl gk];rfl
|int i=>cases e;rw[h.int gk];rfl
|str y=>
  rw[h.str gk];have e':(if y.length<=sizeLine then some ((y.length:Int) != 0)else none)=some b:=e;by_cases hy:y.length<=sizeLine
  .rw[if_pos hy]at e';cases e';exact⟨hy,rfl⟩
  .rw[if_neg hy]at e';cases e'
|lst ds=>cases e;obtain⟨a,xs,rfl,s,r⟩:=h.lst gk;exact .inl ⟨xs,s,by rw[B5 r]⟩
|tup ds=>cases e;obtain⟨a,xs,rfl,s,r⟩:=h.tup gk;exact .inr (.inl ⟨xs,s,by rw[B5 r]⟩)
|dic kvs=>cases e;obtain⟨a,xs,rfl,s,r⟩:=h.dic gk;exact .inr (.inr ⟨xs,s,by rw[B5 r]⟩)
|obj _ _=>cases e
def c6(f:FE):aQ->Res Bool:=fun r=>(f r).bind fun d=>fA (lS d)
theorem gG(ha:SB X g m a fa)(he:∀whole,isTrue a X.env whole=(do let v <-whole;QdJ a.pos;Qcz [v] (truthy v)):=by intro _;rfl):SQ X g m a (c6 fa):=by
 refine PT.imp (Sd ha he) fun σ H Q ⟨r,G,si,q⟩=>⟨r,G,si,cJ (cN q) fun d q1 v G1 H1 w1 r1=>?_⟩
 obtain⟨b,e,q2⟩:=dU q1;exact⟨b,Py w1.ok r1 e,q2 G1 H1 w1⟩
abbrev FQ:=aQ->Res Bool
def eV(p q:FQ):FQ:=fun r=>(p r).bind fun c=>if c=true then q r else .ok false
def gJ(p q:FQ):FQ:=fun r=>(p r).bind fun c=>if c=true then .ok true else q r
def dF(p:FQ):FQ:=fun r=>(p r).bind fun c=>.ok (! c)
variable{rest:List Expr}
theorem Wa{α:Type}{r:Res α}{q:α->Prop}{x x':D->Prop}(h:fin r q x)(hx:∀e,x e->x' e):fin r q x':=by cases r with
|ok a=>exact h
|exc e=>exact hx e h
|stuck=>exact h
theorem iN{α:Type}{r:Res α}{σ:L2.St}{G G1:GH}{H H1:Hp}{P P':α->Prop}(h:fin r P (XW X σ G H))(w:Grow X.K G H G1 H1)(hp:∀a,P a->P' a):fin r P' (XW X σ G1 H1):=Wa (cJ h hp) fun _ x=>x.grow w
theorem pB(ha:SQ X g m a p):SW X g m (.BoolOp .And [a] pos) p:=PR ha
theorem my(ha:SQ X g m a p):SW X g m (.BoolOp .Or [a] pos) p:=Op ha
theorem pe(ha:SQ X g m a p)(hb:SW X g m (.BoolOp .And (b::rest) pos) q):SW X g m (.BoolOp .And (a::b::rest) pos) (eV p q):=by
 refine PW.imp (Oo ha hb) fun σ H Q ⟨r,G,si,k⟩=>⟨r,G,si,cJ (cN k) fun c k1 G1 H1 w1=>?_⟩
 cases c with
|true=>rw[if_pos rfl]at k1 ⊢;exact⟨r,G1,si.grow w1,iN k1 w1 fun b z G' H' w'=>z G' H' (w1.trans w')⟩
|false=>rw[if_neg d_]at k1 ⊢;exact k1 G1 H1 w1
theorem d9(ha:SQ X g m a p)(hb:SW X g m (.BoolOp .Or (b::rest) pos) q):SW X g m (.BoolOp .Or (a::b::rest) pos) (gJ p q):=by
 refine PW.imp (VV ha hb) fun σ H Q ⟨r,G,si,k⟩=>⟨r,G,si,cJ (cN k) fun c k1 G1 H1 w1=>?_⟩
 cases c with
|true=>rw[if_pos rfl]at k1 ⊢;exact k1 G1 H1 w1
|false=>rw[if_neg d_]at k1 ⊢;exact⟨r,G1,si.grow w1,iN k1 w1 fun b z G' H' w'=>z G' H' (w1.trans w')⟩
theorem SW.toQ(h:SW X g m e p):SQ X g m e p:=PW.pt h
theorem i9(ha:SQ X g m a p):SQ X g m (.UnaryOp .Not a pos) (dF p):=PT.imp (M2 ha) fun σ H Q ⟨r,G,si,k⟩=>⟨r,G,si,cJ (cN k) fun c k1 G1 H1 w1=>k1 G1 H1 w1⟩
def gQ(fa fb:FE):FE:=fun r=>(fa r).bind fun d=>(fA (qi d)).bind fun c=>if c=true then fb r else .ok (.bl false)
def qb(fa fb:FE):FE:=fun r=>(fa r).bind fun d=>(fA (qi d)).bind fun c=>if c=true then .ok (.bl true)else fb r
def sF(fa:FE):FE:=fun r=>(fa r).bind fun d=>(fA (qi d)).bind fun c=>.ok (.bl (! c))
theorem qK{op}(h:SE X g m a fa):SE X g m (.BoolOp op [a] pos) fa:=MS h
theorem uL(ha:SE X g m a fa)(hb:SE X g m (.BoolOp .And (b::rest) pos) fb):SE X g m (.BoolOp .And (a::b::rest) pos) (gQ fa fb):=by
 refine PE.imp (ML ha hb) fun σ H Q ⟨r,G,si,k⟩=>⟨r,G,si,cJ (cN k) fun d k1 v G1 H1 w1 r1=>?_⟩
 obtain⟨c,e,k2⟩:=dU (cN k1);cases d with
|bl c'=>cases e;refine⟨_,r1.bl w1.ok,?_⟩;cases c with
 |true=>rw[if_pos rfl]at k2 ⊢;exact⟨r,G1,si.grow w1,iN k2 w1 fun b z v G' H' w'=>z v G' H' (w1.trans w')⟩
 |false=>rw[if_neg d_]at k2 ⊢;exact k2 _ G1 H1 w1 (.scl (.bl _))
|_=>cases e
theorem Ep(ha:SE X g m a fa)(hb:SE X g m (.BoolOp .Or (b::rest) pos) fb):SE X g m (.BoolOp .Or (a::b::rest) pos) (qb fa fb):=by
 refine PE.imp (VS ha hb) fun σ H Q ⟨r,G,si,k⟩=>⟨r,G,si,cJ (cN k) fun d k1 v G1 H1 w1 r1=>?_⟩
 obtain⟨c,e,k2⟩:=dU (cN k1);cases d with
|bl c'=>cases e;refine⟨_,r1.bl w1.ok,?_⟩;cases c with
 |false=>rw[if_neg d_]at k2 ⊢;exact⟨r,G1,si.grow w1,iN k2 w1 fun b z v G' H' w'=>z v G' H' (w1.trans w')⟩
 |true=>rw[if_pos rfl]at k2 ⊢;exact k2 _ G1 H1 w1 (.scl (.bl _))
|_=>cases e
theorem V0(ha:SE X g m a fa):SE X g m (.UnaryOp .Not a pos) (sF fa):=by
 refine PE.imp (MR ha) fun σ H Q ⟨r,G,si,k⟩=>⟨r,G,si,cJ (cN k) fun d k1 v G1 H1 w1 r1=>?_⟩
 obtain⟨c,e,k2⟩:=dU (cN k1);cases d with
|bl c'=>cases e;exact⟨_,r1.bl w1.ok,k2 _ G1 H1 w1 (.scl (.bl _))⟩
|_=>cases e
def oS(p:FQ)(fa fb:FE):FE:=fun r=>(p r).bind fun c=>if c=true then fa r else fb r
theorem Ft(hc:SQ X g m c p)(ha:SE X g m a fa)(hb:SE X g m b fb):SE X g m (.IfExp c a b pos) (oS p fa fb):=by
 refine PE.imp (QP hc ha hb) fun σ H Q ⟨r,G,si,k⟩=>⟨r,G,si,cJ (cN k) fun c k1 G1 H1 w1=>?_⟩
 cases c with
|true=>rw[if_pos rfl]at k1 ⊢;exact⟨r,G1,si.grow w1,iN k1 w1 fun b z v G' H' w'=>z v G' H' (w1.trans w')⟩
|false=>rw[if_neg d_]at k1 ⊢;exact⟨r,G1,si.grow w1,iN k1 w1 fun b z v G' H' w'=>z v G' H' (w1.trans w')⟩
variable{fr:aQ->Res (List D)}
def aH:aQ->Res (List D):=fun _=>.ok []
def aI(fa:FE)(fl:aQ->Res (List D)):aQ->Res (List D):=fun r=>(fa r).bind fun d=>(fl r).bind fun ds=>.ok (d::ds)
theorem de:SA X g m [] aH:=PA.imp lB fun σ H Q ⟨r,G,si,k⟩=>k [] G H (Grow.refl si.gok) .nil
theorem df(ha:SE X g m e fa)(hr:SA X g m es fl)(hs:h_ (e::es) X.env=(false,eval e X.env)::h_ es X.env:=by rfl):SA X g m (e::es) (aI fa fl):=by
 refine PA.imp (jt ha hr hs) fun σ H Q ⟨r,G,si,k⟩=>⟨r,G,si,cJ (cN k) fun d k1 v G1 H1 w1 r1=>⟨r,G1,si.grow w1,?_⟩⟩
 exact iN (cN k1) w1 fun ds z vs G2 H2 w2 r2=>z (v::vs) G2 H2 (w1.trans w2) (.cons (r1.mono w2.ge) r2)
theorem cL:j4 X g m [] aH:=PA.imp lB fun σ H Q ⟨r,G,si,k⟩=>k [] G H (Grow.refl si.gok) .nil
theorem cK(ha:SB X g m e fa)(hr:j4 X g m es fl)(hs:h_ (e::es) X.env=(false,eval e X.env)::h_ es X.env:=by rfl):j4 X g m (e::es) (aI fa fl):=by
 refine PA.imp (jt ha hr hs) fun σ H Q ⟨r,G,si,k⟩=>⟨r,G,si,cJ (cN k) fun d k1 v G1 H1 w1 r1=>⟨r,G1,si.grow w1,?_⟩⟩
 exact iN (cN k1) w1 fun ds z vs G2 H2 w2 r2=>z (v::vs) G2 H2 (w1.trans w2) (.cons (r1.mono w2) r2)
def sz(ds:List D):Option (List D):=if ds.length<=sizeLine then some ds else none
theorem Aw{ds ds':List D}(h:sz ds=some ds'):ds'=ds/\ds.length<=sizeLine:=by
 unfold sz at h;split at h
 .rename_i hl;cases h;exact⟨rfl,hl⟩
 .cases h
theorem Mx{ds:List D}(h:ds.length<=sizeLine):sz ds=some ds:=if_pos h
def lb(fl:aQ->Res (List D)):FE:=fun r=>(fl r).bind fun ds=>(fA (sz ds)).bind fun ds=>.ok (.tup ds)
def fW(fl:aQ->Res (List D)):FE:=fun r=>(fl r).bind fun ds=>(fA (sz ds)).bind fun ds=>.ok (.lst ds)
theorem nB{x1}(h:SA X g m es fl):SE X g m (.Tuple es x1 pos) (lb fl):=by
 refine PE.imp (MT h) fun σ H Q ⟨r,G,si,k⟩=>⟨r,G,si,cJ (cN k) fun ds k1 vs G1 H1 w1 r1=>?_⟩
 obtain⟨ds',e,k2⟩:=dU (cN k1);obtain⟨rfl,hl⟩:=Aw e;have hlen:=Paired.length r1;refine⟨by omega,fun p hp=>?_⟩;exact k2 _ _ _ (w1.trans (Grow.newF (d:=.tup ds') w1.ok hp (.tup (.inl cV) r1))) (.ref gr)
theorem g6(h:SA X g m es fl):SO X g m (.List es pos) (fW fl):=by
 refine PE.imp (MP h) fun σ H Q ⟨r,G,si,k⟩=>⟨r,G,si,cJ (cN k) fun ds k1 vs G1 H1 w1 r1=>?_⟩
 obtain⟨ds',e,k2⟩:=dU (cN k1);obtain⟨rfl,hl⟩:=Aw e;have hlen:=Paired.length r1;refine⟨by omega,fun p hp=>?_⟩;have hn:H p=none:=by cases q:H p with
 |none=>rfl
 |some o=>rw[w1.he _ _ q]at hp;cases hp
 exact k2 p G1 _ (w1.trans (Grow.new w1.ok hp _)) hn ⟨w1.ok.isN hp,.lst cV r1⟩
end
def qq(K:W.Frag)(r:List V->Hp->VK->Prop)(k:List D->Option D):Prop:=∀(G:GH)(H:Hp)(vs:List V)(ds:List D)(d:D)(Q:VK),cp K G H->Paired (RB K G H) vs ds->k ds=some d ->(∀v G' H',Grow K G H G' H'->RG K G' v d->Q v H')->r vs H Q
def E8(K:W.Frag)(r:List V->Hp->VK->Prop)(k:List D->Option D):Prop:=∀(G:GH)(H:Hp)(vs:List V)(ds:List D)(d:D)(Q:VK),cp K G H->Paired (RB K G H) vs ds->k ds=some d ->(∀a G' H',Grow K G H G' H'->H a=none->Own K G' H' a d->Q (.ref a) H')->r vs H Q
def fC(fl:aQ->Res (List D))(k:List D->Option D):FE:=fun r=>(fl r).bind fun ds=>fA (k ds)
theorem Grow.back{K:W.Frag}{G G1:GH}{H H1:Hp}(w:Grow K G H G1 H1){a:Addr}(hn:H1 a=none):H a=none:=by cases q:H a with
|none=>rfl
|some o=>rw[w.he _ _ q]at hn;cases hn
variable{id T:String}
section
variable{fc:FE}{p p2:Pos}{x:Str}{R:List V->Hp->VK->Prop}{k:List D->Option D}
theorem lX(hk:qq X.K R k)(h:PE X e (Aa R (Eg X g m fl))):SE X g m e (fC fl k):=by
 refine PE.imp h fun σ H Q ⟨r,G,si,q⟩=>⟨r,G,si,cJ (cN q) fun ds q1 vs G1 H1 w1 r1=>?_⟩
 obtain⟨d,e,q2⟩:=dU q1;exact hk G1 H1 vs ds d Q w1.ok r1 e fun v G' H' w' z=>q2 v G' H' (w1.trans w') z
theorem Fs(hk:E8 X.K R k)(h:PE X e (Aa R (Eg X g m fl))):SO X g m e (fC fl k):=by
 refine PE.imp h fun σ H Q ⟨r,G,si,q⟩=>⟨r,G,si,cJ (cN q) fun ds q1 vs G1 H1 w1 r1=>?_⟩
 obtain⟨d,e,q2⟩:=dU q1;exact hk G1 H1 vs ds d Q w1.ok r1 e fun v G' H' w' hn z=>q2 v G' H' (w1.trans w') (w1.back hn) z
def lenD:List D->Option D
|[.str y]=>if y.length<=sizeLine then some (.int y.length)else none
|[.lst ds]=>some (.int ds.length)
|[.tup ds]=>some (.int ds.length)
|[.dic kvs]=>some (.int kvs.length)
|_=>none
theorem M5{K:W.Frag}:qq K (fun xs H Q=>(∃x n,xs=[x]/\tM K x H n/\Q (.int n) H)\/∃a kvs,xs=[V.ref a]/\Rd H a (.dK kvs)/\Q (.int kvs.length) H) lenD:=by
 intro G H vs ds d Q gk rs e q;unfold lenD at e;split at e
 .split at e
  .cases e;cases rs with
  |cons r t=>cases t;exact .inl ⟨_,_,rfl,by rw[r.str gk];exact⟨by assumption,rfl⟩,q _ G H (Grow.refl gk) (.scl (.int _))⟩
  .cases e
 .cases e;cases rs with
 |cons r t=>cases t;obtain⟨a,xs,rfl,s,r⟩:=r.lst gk;have:=Paired.length r;exact .inl ⟨_,_,rfl,.inl ⟨xs,s,rfl⟩,q _ G H (Grow.refl gk) (.scl (by rw[this];exact .int _))⟩
 .cases e;cases rs with
 |cons r t=>cases t;obtain⟨a,xs,rfl,s,r⟩:=r.tup gk;have:=Paired.length r;exact .inl ⟨_,_,rfl,.inr ⟨xs,s,rfl⟩,q _ G H (Grow.refl gk) (.scl (by rw[this];exact .int _))⟩
 .cases e;cases rs with
 |cons r t=>cases t;obtain⟨a,xs,rfl,s,r⟩:=r.dic gk;have:=Paired.length r;exact .inr ⟨_,_,rfl,s,q _ G H (Grow.refl gk) (.scl (by rw[this];exact .int _))⟩
 .cases e
theorem gm(hg:Gl X "len")(hm:X.mg "len" = none)(ha:j4 X g m (e::es) fl)(he:h_ (e::es) X.env=(false,eval e X.env)::h_ es X.env:=by rfl)(hpl:(backTo pos (h_ es X.env)).any (·.1)=false:=by rfl):SE X g m (.Call (.Name "len" p) (e::es) [] pos) (fC fl lenD):=lX M5 (rJ (gL.or QS RA) hg hm PySem.boot_len ha (by decide) (by decide) he hpl)
def nv:List D->Option D
|[.lst ds]=>some (.lst ds)
|[.tup ds]=>some (.lst ds)
|_=>none
theorem Ot{K:W.Frag}:E8 K (fun xs H Q=>∃p ys,xs=[.ref p]/\(cX K H p ys\/dG K H p ys)/\∀l,H l=none->Q (.ref l) (aY H l (.lst ys))) nv:=by
 intro G H vs ds d Q gk rs e q;have fin:∀{ys:List V}{zs:List D},dB K G ys zs->(∀(a:Addr)(G':GH)(H':Hp),Grow K G H G' H'->H a=none->Own K G' H' a (.lst zs)->Q (.ref a) H')->∀l,H l=none->Q (.ref l) (aY H l (.lst ys)):=fun r q l hl=>q l G _ (Grow.new gk hl _) hl ⟨gk.isN hl,.lst cV r⟩;unfold nv at e;split at e
 .cases e;cases rs with
 |cons r t=>cases t;obtain⟨a,xs,rfl,s,r⟩:=r.lst gk;exact⟨a,xs,rfl,.inl s,fin r q⟩
 .cases e;cases rs with
 |cons r t=>cases t;obtain⟨a,xs,rfl,s,r⟩:=r.tup gk;exact⟨a,xs,rfl,.inr s,fin r q⟩
 .cases e
theorem uQ(hg:Gl X "list")(hm:X.mg "list" = none)(ha:j4 X g m (e::es) fl)(he:h_ (e::es) X.env=(false,eval e X.env)::h_ es X.env:=by rfl)(hpl:(backTo pos (h_ es X.env)).any (·.1)=false:=by rfl):SO X g m (.Call (.Name "list" p) (e::es) [] pos) (fC fl nv):=Fs Ot (pS UN hg hm rfl ha (by decide) (by decide) he hpl)
def tupD:List D->Option D
|[.lst ds]=>some (.tup ds)
|[.tup ds]=>some (.tup ds)
|_=>none
theorem NJ{K:W.Frag}:qq K (fun xs H Q=>∃p ys,xs=[.ref p]/\((cX K H p ys/\∀l,H l=none->Q (.ref l) (aY H l (.tup ys)))\/(dG K H p ys/\Q (.ref p) H))) tupD:=by
 intro G H vs ds d Q gk rs e q;unfold tupD at e;split at e
 .cases e;cases rs with
 |cons r t=>cases t;obtain⟨a,xs,rfl,s,r⟩:=r.lst gk;exact⟨a,xs,rfl,.inl ⟨s,fun l hl=>q _ _ _ (Grow.newF gk hl (.tup (.inl cV) r)) (.ref gr)⟩⟩
 .cases e;cases rs with
 |cons r t=>
   cases t;rcases r with r|⟨a,_,o⟩
   .obtain⟨a,xs,rfl,s,r'⟩:=r.tup gk;exact⟨a,xs,rfl,.inr ⟨s,q _ G H (Grow.refl gk) r⟩⟩
   .cases o.ob
 .cases e
theorem jd(hg:Gl X "tuple")(hm:X.mg "tuple" = none)(ha:j4 X g m (e::es) fl)(he:h_ (e::es) X.env=(false,eval e X.env)::h_ es X.env:=by rfl)(hpl:(backTo pos (h_ es X.env)).any (·.1)=false:=by rfl):SE X g m (.Call (.Name "tuple" p) (e::es) [] pos) (fC fl tupD):=lX NJ (pS UX hg hm rfl ha (by decide) (by decide) he hpl)
def ixD:D->D->Option D
|.lst ds,.int i=>iH ds i
|.tup ds,.int i=>iH ds i
|.str z,.int i=>if z.length<=sizeLine then(iH z.cps.toList i).map fun c=>.str ⟨#[c]⟩else none
|_,_=>none
theorem Fc{K:W.Frag}{G:GH}{xs:List V}{ds:List D}{i:Int}{d:D}(r:dB K G xs ds)(h:iH ds i=some d):∃v,iH xs i=some v/\RG K G v d:=by unfold iH at h ⊢;rw[Paired.length r];cases e:jE ds.length i with
|none=>rw[e]at h;cases h
|some j=>rw[e]at h;exact Paired.get r h
theorem Aq{K:W.Frag}:gb K (Ew K) ixD:=by
 intro G H v1 v2 d1 d2 d Q gk r1 r2 e q;unfold ixD at e;split at e
 .obtain⟨a,xs,rfl,s,r⟩:=r1.lst gk;obtain⟨v,ev,rv⟩:=Fc r e;exact .inl ⟨a,xs,_,v,rfl,r2.int gk,s,ev,q v G H (Grow.refl gk) rv⟩
 .obtain⟨a,xs,rfl,s,r⟩:=r1.tup gk;obtain⟨v,ev,rv⟩:=Fc r e;exact .inr (.inl ⟨a,xs,_,v,rfl,r2.int gk,s,ev,q v G H (Grow.refl gk) rv⟩)
 .split at e
  .rename_i z i hz;cases ec:iH z.cps.toList i with
  |none=>rw[ec]at e;cases e
  |some c=>rw[ec]at e;cases e;exact .inr (.inr ⟨z,i,c,r1.str gk,r2.int gk,hz,ec,q _ G H (Grow.refl gk) (.scl (.str _))⟩)
  .cases e
 .cases e
def gC{α:Type}(xs:List α)(lo hi:Option Int):List α:=(xs.drop (HT.sIx xs.length 0 lo)).take (HT.sIx xs.length xs.length hi-HT.sIx xs.length 0 lo)
theorem Fd{α β:Type}{F:α->β->Prop}{xs:List α}{ds:List β}(r:Paired F xs ds)(lo hi:Option Int):Paired F (gC xs lo hi) (gC ds lo hi):=by unfold gC;rw[Paired.length r];exact Paired.tk _ (Paired.dr _ r)
abbrev FP:=aQ->Res (Option Int)
def tP(X:Cx)(g:GE)(m:List Md)(f:FP):TO:=fun σ H Q=>∃r G,SI X g m r G σ H/\fin (f r) (fun o=>∀G' H',Grow X.K G H G' H'->Q o H') (XW X σ G H)
def Ad(X:Cx)(g:GE)(m:List Md)(e:Option Expr)(f:FP):Prop:=PO X e (tP X g m f)
theorem PO.imp{X:Cx}{e:Option Expr}{t t':TO}(h:PO X e t)(i:∀σ H Q,t' σ H Q->t σ H Q):PO X e t':=fun pz s σ H Q I q=>h pz s σ H Q I (i σ H Q q)
def WU:D->Option Int
|.int i=>some i
|_=>none
def pq(f:FE):FP:=fun r=>(f r).bind fun d=>(fA (WU d)).bind fun i=>.ok (some i)
theorem AS:Ad X g m none fun _=>.ok none:=PO.imp PH fun σ H Q ⟨r,G,si,q⟩=>q G H (Grow.refl si.gok)
theorem AT(h:SB X g m e f):Ad X g m (some e) (pq f):=by
 refine PO.imp (PK h) fun σ H Q ⟨r,G,si,q⟩=>⟨r,G,si,cJ (cN q) fun d q1 v G1 H1 w1 r1=>?_⟩
 obtain⟨i,e,q2⟩:=dU (cN q1);cases d with
|int j=>cases e;exact⟨_,r1.int w1.ok,q2 G1 H1 w1⟩
|_=>cases e
def sN(d:D)(lo hi:Option Int):Option D:=match d with
|.tup ds=>if HT.sIx ds.length 0 lo=0/\HT.sIx ds.length ds.length hi=ds.length then none else some (.tup (gC ds lo hi))
|.lst ds=>some (.lst (gC ds lo hi))
|_=>none
def oR(fa:FE)(fl fh:FP):FE:=fun r=>(fa r).bind fun d=>(fl r).bind fun lo=>(fh r).bind fun hi=>fA (sN d lo hi)
theorem Oh{R:V->Option Int->Option Int->Hp->Prop}{fl fh:FP}{r:aQ}{G:GH}{σ:L2.St}{H:Hp}{q:D->Prop}(si:SI X g m r G σ H)(h:fin (oR fa fl fh r) q (XW X σ G H))(hk:∀d lo hi v G2 H2 d',Grow X.K G H G2 H2->RB X.K G2 H2 v d->sN d lo hi=some d'->q d'->R v lo hi H2):tB X g m fa σ H fun x H1=>tP X g m fl σ H1 fun l H2=>tP X g m fh σ H2 fun u H3=>R x l u H3:=by refine⟨r,G,si,cJ (cN h) fun d h1 v G1 H1 w1 r1=>⟨r,G1,si.grow w1,iN (cN h1) w1 fun lo h2 G2 H2 w2=>⟨r,G2,(si.grow w1).grow w2,?_⟩⟩⟩;refine iN (cN h2) (w1.trans w2) fun hi h3 G3 H3 w3=>?_;obtain⟨d',e,h4⟩:=dU h3;exact hk d lo hi v G3 H3 d' ((w1.trans w2).trans w3) ((r1.mono w2).mono w3) e h4
theorem At{lo hi:Option Expr}{fl fh:FP}(he:SB X g m e f)(hl:Ad X g m lo fl)(hu:Ad X g m hi fh):SE X g m (.Subscript e (.Slice lo hi none p2) pos) (oR f fl fh):=by refine PE.imp (QR (nr.or Pp Oj) he hl hu) fun σ H Q ⟨r,G,si,q⟩=>?_;refine Oh si q fun d lo hi v G2 H2 d' w r1 e q2=>?_;cases d with
|tup ds=>
  obtain⟨a,xs,rfl,s,r⟩:=r1.tup w.ok;have e':(if HT.sIx ds.length 0 lo=0/\HT.sIx ds.length ds.length hi=ds.length then none else some (D.tup (gC ds lo hi)))=some d':=e;by_cases hw:HT.sIx ds.length 0 lo=0/\HT.sIx ds.length ds.length hi=ds.length
  .rw[if_pos hw]at e';cases e'
  rw[if_neg hw]at e';cases e';rw[<-Paired.length r]at hw;refine .inr ⟨a,xs,rfl,s,hw,fun p hp=>?_⟩;exact q2 _ _ _ (w.trans (Grow.newF w.ok hp (.tup (.inl cV) (Fd r lo hi)))) (.ref gr)
|lst ds=>cases e;obtain⟨a,xs,rfl,s,r⟩:=r1.lst w.ok;exact .inl ⟨a,xs,rfl,s,fun p hp=>q2 _ _ _ (w.trans (Grow.newF w.ok hp (.lst (.inl cV) (Fd r lo hi)))) (.ref gr)⟩
|_=>cases e
end
inductive Out where
 |nx (r:aQ)|rt (d:D)|bk (r:aQ)|ct (r:aQ)|exc (x:D) (r:aQ)|stuck
abbrev FS:=aQ->Out
def cF(G G':GH):Prop:=∀a d,G a=some d->G' a=some d
theorem cF.refl(G:GH):cF G G:=fun _ _ e=>e
theorem cF.trans{G G1 G2:GH}(a:cF G G1)(b:cF G1 G2):cF G G2:=fun x d e=>b x d (a x d e)
def forget(m:List Md)(r:aQ):aQ:=List.zipWith (fun md o=>if md=Md.sh then o else none) m r
def fG(m:List Md):List Md:=m.map fun _=>Md.sh
theorem rS{m:List Md}{r:aQ}{i:Nat}{d:D}(h:(forget m r)[i]? = some (some d)):r[i]? = some (some d)/\m[i]? = some .sh:=by unfold forget at h;rw[List.getElem?_zipWith]at h;cases e1:m[i]? with
|none=>rw[e1]at h;cases h
|some md=>cases e2:r[i]? with
 |none=>rw[e1,e2]at h;cases h
 |some o=>
   rw[e1,e2]at h;have h':(if md=Md.sh then o else none)=some d:=J_ h;split at h'
   .rename_i hm;subst hm;rw[h'];exact⟨rfl,rfl⟩
   .cases h'
section
variable{st:L2.St}
theorem SI.forget(s:SI X g m r G st H):SI X g (fG m) (forget m r) G st H where
 gok:=s.gok
 old:=s.old
 ge:=s.ge
 gf:=s.gf
 lm:=by rw[fG,l_];exact s.lm
 lr:=by rw[DL.forget,List.length_zipWith,s.lm,s.lr,Nat.min_self]
 sh:=fun i d h _=>s.sh i d (rS h).1 (rS h).2
 ow:=fun i d h hm=>by rw[fG,u_,(rS h).2]at hm;cases hm
 bw:=fun i d h hm=>by rw[fG,u_,(rS h).2]at hm;cases hm
 dis:=fun i j a d e _ h _ hm=>by rw[fG,u_,(rS h).2]at hm;cases hm
 lk:=fun i o _ hm=>by rw[fG,u_]at hm;cases q:m[i]? <;> rw[q]at hm <;> cases hm
theorem SI.set(s:SI X g m r G st H)(i:Nat){v:V}{d:D}(hv:RG X.K G v d):SI X g (m.set i .sh) (r.set i (some d)) G (st.set i (some v)) H where
 gok:=s.gok
 old:=s.old
 ge:=s.ge
 gf:=s.gf
 lm:=by simp[s.lm]
 lr:=by simp[s.lr]
 sh:=fun j e h hm=>by
  by_cases hij:i=j
  .subst hij;have hl:i<r.length:=by have:=(m_.mp h).1;simpa using this
   rw[s_ hl]at h;cases h;exact⟨v,by rw[s_ (by rw[<-s.lr];exact hl)],hv⟩
  .rw[g_ hij]at h hm;rw[g_ hij];exact s.sh j e h hm
 ow:=fun j e h hm=>by
  by_cases hij:i=j
  .subst hij;have hl:i<m.length:=by have:=(m_.mp hm).1;simpa using this
   rw[s_ hl]at hm;cases hm
  .rw[g_ hij]at h hm;rw[g_ hij];exact s.ow j e h hm
 bw:=fun j e h hm=>by
  by_cases hij:i=j
  .subst hij;have hl:i<m.length:=by have:=(m_.mp hm).1;simpa using this
   rw[s_ hl]at hm;cases hm
  .rw[g_ hij]at h hm;rw[g_ hij];exact s.bw j e h hm
 dis:=fun j k a d1 d2 hjk h1 h2 hm hm' q1 q2=>by
  have hij:i≠j:=by
   rintro rfl
   have hl:i<m.length:=by have:=(m_.mp hm).1;simpa using this
   rw[s_ hl]at hm;cases hm
  have hik:i≠k:=by
   rintro rfl
   have hl:i<m.length:=by have:=(m_.mp h2).1;rw[Qfi,s.lr,<-s.lm]at this;exact this
   rw[s_ hl]at hm';cases hm'
  rw[g_ hij]at h1 hm q1;rw[g_ hik]at h2 hm' q2;exact s.dis j k a d1 d2 hjk h1 h2 hm hm' q1 q2
 lk:=fun j o hj hm=>by
  have hij:i≠j:=by
   rintro rfl
   have hl:i<m.length:=by have:=(m_.mp hm).1;simpa using this
   rw[s_ hl]at hm;cases hm
  rw[g_ hij]at hm;have:=s.lk j o hj hm;exact⟨by rw[g_ hij];exact this.1,fun d h=>this.2 d (by rw[g_ hij]at h;exact h)⟩
theorem SI.setO(s:SI X g m r G st H)(i:Nat){a:Addr}{d:D}(ho:Own X.K G H a d)(h0:g.h0 a=none)(hx:∀(j:Nat)(b:Addr)(e:D),r[j]? = some (some e)->m[j]? = some Md.ow->st[j]? = some (some (V.ref b))->b≠a):SI X g (m.set i .ow) (r.set i (some d)) G (st.set i (some (V.ref a))) H where
 gok:=s.gok
 old:=s.old
 ge:=s.ge
 gf:=s.gf
 lm:=by simp[s.lm]
 lr:=by simp[s.lr]
 sh:=fun j e h hm=>by
  by_cases hij:i=j
  .subst hij;have hl:i<m.length:=by have:=(m_.mp hm).1;simpa using this
   rw[s_ hl]at hm;cases hm
  .rw[g_ hij]at h hm;rw[g_ hij];exact s.sh j e h hm
 ow:=fun j e h hm=>by
  by_cases hij:i=j
  .subst hij;have hl:i<r.length:=by have:=(m_.mp h).1;simpa using this
   rw[s_ hl]at h;cases h;exact⟨a,by rw[s_ (by rw[<-s.lr];exact hl)],ho,h0⟩
  .rw[g_ hij]at h hm;rw[g_ hij];exact s.ow j e h hm
 bw:=fun j e h hm=>by
  by_cases hij:i=j
  .subst hij;have hl:i<m.length:=by have:=(m_.mp hm).1;simpa using this
   rw[s_ hl]at hm;cases hm
  .rw[g_ hij]at h hm;rw[g_ hij];exact s.bw j e h hm
 dis:=fun j k b d1 d2 hjk h1 h2 hm hm' q1 q2=>by
  by_cases hij:i=j
  .subst hij;rw[g_ hjk]at h2 hm' q2;have hl:i<st.length:=by have:=(m_.mp q1).1;simpa using this
   rw[s_ hl]at q1;have e:a=b:=by injection q1 with q1;injection q1 with q1;injection q1
   exact hx k b d2 h2 hm' q2 e.symm
  .by_cases hik:i=k
   .subst hik;rw[g_ hij]at h1 hm q1;have hl:i<st.length:=by have:=(m_.mp q2).1;simpa using this
    rw[s_ hl]at q2;have e:a=b:=by injection q2 with q2;injection q2 with q2;injection q2
    exact hx j b d1 h1 hm q1 e.symm
   .rw[g_ hij]at h1 hm q1;rw[g_ hik]at h2 hm' q2;exact s.dis j k b d1 d2 hjk h1 h2 hm hm' q1 q2
 lk:=fun j o hj hm=>by
  have hij:i≠j:=by
   rintro rfl
   have hl:i<m.length:=by have:=(m_.mp hm).1;simpa using this
   rw[s_ hl]at hm;cases hm
  rw[g_ hij]at hm;have:=s.lk j o hj hm;exact⟨by rw[g_ hij];exact this.1,fun d h=>this.2 d (by rw[g_ hij]at h;exact h)⟩
theorem SI.other(s:SI X g m r G st H){p:Addr}(hp:G p=none)(h0:g.h0 p=none)(hm:∀(i:Nat),m[i]?≠some Md.ow)(o:HO):SI X g m r G st (aY H p o) where
 gok:=fun b e h=>(s.gok b e h).mono (fun _ _ z=>z) fun o' q=>by rw[bT (by rintro rfl;rw[hp]at h;cases h)];exact q
 old:=fun b o' h=>by rw[bT (by rintro rfl;rw[h0]at h;cases h)];exact s.old b o' h
 ge:=s.ge
 gf:=s.gf
 lm:=s.lm
 lr:=s.lr
 sh:=s.sh
 ow:=fun i d _ h=>absurd h (hm i)
 bw:=fun i d h1 h2=>by
  obtain⟨v,h3,h4⟩:=s.bw i d h1 h2;refine⟨v,h3,?_⟩;rcases h4 with h4|⟨a,rfl,h4,h5⟩
  .exact .inl h4
  .have ha:a≠p:=by rintro rfl;exact h5 h0
   exact .inr ⟨a,rfl,⟨h4.un,h4.ob.mono (fun _ _ z=>z) fun o' z=>by rw[bT ha];exact z⟩,h5⟩
 dis:=fun i j a d e _ _ _ h=>absurd h (hm i)
 lk:=s.lk
theorem SI.less(s:SI X g m r G st H){r':aQ}(hl:r'.length=r.length)(h:∀(i:Nat) d,r'[i]? = some (some d)->r[i]? = some (some d)):SI X g m r' G st H:=⟨s.gok,s.old,s.ge,s.gf,s.lm,hl.trans s.lr,fun i d a b=>s.sh i d (h i d a) b,fun i d a b=>s.ow i d (h i d a) b,fun i d a b=>s.bw i d (h i d a) b,fun i j a d e n p q x y=>s.dis i j a d e n (h i d p) (h j e q) x y,fun i o hi hm=>by have:=s.lk i o hi hm;exact⟨this.1,fun d hd=>this.2 d (h i d hd)⟩⟩
theorem SI.held(s:SI X g m r G st H){j:Nat}{b:Addr}{e:D}(h:r[j]? = some (some e))(hm:m[j]? = some .ow)(hs:st[j]? = some (some (V.ref b))):H b≠none:=by
 obtain⟨a,h1,h2,_⟩:=s.ow j e h hm;rw[hs]at h1;injection h1 with h1;injection h1 with h1;injection h1 with h1
 rw[h1];exact h2.ob.isS
theorem SI.setN(s:SI X g m r G st H){G':GH}{H':Hp}(w:Grow X.K G H G' H')(i:Nat){a:Addr}{d:D}(hn:H a=none)(ho:Own X.K G' H' a d):SI X g (m.set i .ow) (r.set i (some d)) G' (st.set i (some (V.ref a))) H':=by
 refine(s.grow w).setO i ho ?_ fun j b e h1 h2 h3=>?_
 .cases q:g.h0 a with
 |none=>rfl
 |some o=>rw[s.old _ _ q]at hn;cases hn
 .rintro rfl
  exact s.held h1 h2 h3 hn
theorem SI.mut(s:SI X g m r G st H){i:Nat}{d:D}(hm:m[i]? = some .ow)(hd:r[i]? = some (some d)):∃a,st[i]? = some (some (V.ref a))/\Own X.K G H a d/\∀(o':HO)(d':D),OwnO X.K G (aY H a o') a d'->SI X g m (r.set i (some d')) G st (aY H a o'):=by
 obtain⟨a,h1,h2,h3⟩:=s.ow i d hd hm;have hl:i<r.length:=(m_.mp hd).1;refine⟨a,h1,h2,fun o' d' ob=>?_⟩;have Y:∀(j:Nat)(b:Addr)(e:D),j≠i->r[j]? = some (some e)->m[j]? = some .ow->st[j]? = some (some (V.ref b))->b≠a:=fun j b e hj q1 q2 q3 z=>by subst z;exact s.dis i j b d e (Qby hj) hd q1 hm q2 h1 q3
 refine⟨fun b e h=>?_,fun b o h=>?_,s.ge,s.gf,s.lm,by simp[s.lr],?_,?_,?_,?_,fun j o hj hm'=>?_⟩
 .have hb:b≠a:=by rintro rfl;rw[h2.un]at h;cases h
  exact(s.gok b e h).mono (fun _ _ z=>z) fun o q=>by rw[bT hb];exact q
 .have hb:b≠a:=by rintro rfl;rw[h3]at h;cases h
  rw[bT hb];exact s.old b o h
 .intro j e h hm';have hij:i≠j:=by rintro rfl;rw[hm]at hm';cases hm'
  rw[g_ hij]at h;exact s.sh j e h hm'
 .intro j e h hm';by_cases hij:i=j
  .subst hij;rw[s_ hl]at h;cases h;exact⟨a,h1,⟨h2.un,ob⟩,h3⟩
  .rw[g_ hij]at h;obtain⟨b,q1,q2,q3⟩:=s.ow j e h hm';have hb:=Y j b e (Qby hij) h hm' q1;exact⟨b,q1,⟨q2.un,q2.ob.mono (fun _ _ z=>z) fun o z=>by rw[bT hb];exact z⟩,q3⟩
 .intro j e h hm';have hij:i≠j:=by rintro rfl;rw[hm]at hm';cases hm'
  rw[g_ hij]at h;obtain⟨v,q1,q2⟩:=s.bw j e h hm';refine⟨v,q1,?_⟩;rcases q2 with q2|⟨b,rfl,q2,q3⟩
  .exact .inl q2
  .have hb:b≠a:=by rintro rfl;exact q3 h3
   exact .inr ⟨b,rfl,⟨q2.un,q2.ob.mono (fun _ _ z=>z) fun o z=>by rw[bT hb];exact z⟩,q3⟩
 .have bound:∀(j:Nat) e,(r.set i (some d'))[j]? = some (some e)->∃e',r[j]? = some (some e'):=fun j e h=>by
   by_cases hij:i=j
   .subst hij;exact⟨d,hd⟩
   .rw[g_ hij]at h;exact⟨e,h⟩
  intro j k b d1 d2 hjk q1 q2 p1 p2 z1 z2;obtain⟨e1,q1⟩:=bound j d1 q1;obtain⟨e2,q2⟩:=bound k d2 q2;exact s.dis j k b e1 e2 hjk q1 q2 p1 p2 z1 z2
 .have hij:i≠j:=by rintro rfl;rw[hm]at hm';cases hm'
  have:=s.lk j o hj hm';exact⟨this.1,fun U h=>this.2 U (by rw[g_ hij]at h;exact h)⟩
end
def RV(ro:Bool)(K:W.Frag)(H0:Hp)(G:GH)(H:Hp)(v:V)(d:D):Prop:=match ro with
|false=>RG K G v d
|true=>(∃a,v=.ref a/\H0 a=none/\Own K G H a d)\/(d=.non/\v=.non)
def c9(X:Cx)(g:GE)(ro:Bool)(m' mb:List Md)(G:GH)(D:Ends):Out->Prop
|.nx r'=>∀σ' G' H',cF G G'->SI X g m' r' G' σ' H'->D.nx σ' H'
|.rt d=>∀v G' H',Grow X.K g.gh g.h0 G' H'->RV ro X.K g.h0 G' H' v d->D.rt v H'
|.bk r'=>∀σ' G' H',cF G G'->SI X g mb r' G' σ' H'->D.bk σ' H'
|.ct r'=>∀σ' G' H',cF G G'->SI X g mb r' G' σ' H'->D.ct σ' H'
|.exc x r'=>∀pz e s' σ' G' H',cF G G'->SI X g (fG m') r' G' σ' H'->Inv X pz σ' H' s'->LS X σ' G' H' e x s'->X.xe e s'
|.stuck=>False
def tS(X:Cx)(g:GE)(ro:Bool)(m m' mb:List Md)(f:FS):TS:=fun D σ H=>∃r G,SI X g m r G σ H/\c9 X g ro m' mb G D (f r)
def SS(X:Cx)(g:GE)(ro:Bool)(mb m:List Md)(st:Stmt)(f:FS)(m':List Md):Prop:=m'.length=m.length/\PS X st (tS X g ro m m' mb f)
def fF(X:Cx)(g:GE)(ro:Bool)(mb m:List Md)(st:List Stmt)(f:FS)(m':List Md):Prop:=m'.length=m.length/\eD X st (tS X g ro m m' mb f)
theorem wN{m m':List Md}(h:m'.length=m.length):fG m'=fG m:=by unfold fG;rw[Qfk,Qfk,h]
theorem c9.x{X:Cx}{g:GE}{ro:Bool}{m m' mb:List Md}{r:aQ}{G:GH}{D:Ends}{σ:L2.St}{H:Hp}{x:DL.D}(h:c9 X g ro m' mb G D (.exc x (forget m r)))(si:SI X g m r G σ H)(hl:m'.length=m.length):XW X σ G H x:=fun pz e s' G' H' w I ex=>h pz e s' σ G' H' w.ge (by rw[wN hl];exact(si.grow w).forget) I ex
variable{ro:Bool}{m' m1 mb:List Md}{pos':Pos}{sts:List Stmt}{s1:FS}
section
variable{tg:Expr}{fc:FE}{st:Stmt}{sts':List Stmt}{s2:FS}
theorem c9.gle{G G1:GH}{D:Ends}{o:Out}(h:c9 X g ro m' mb G D o)(w:cF G G1):c9 X g ro m' mb G1 D o:=by cases o with
|nx r'=>exact fun σ' G' H' q si=>h σ' G' H' (w.trans q) si
|rt d=>exact h
|bk r'=>exact fun σ' G' H' q si=>h σ' G' H' (w.trans q) si
|ct r'=>exact fun σ' G' H' q si=>h σ' G' H' (w.trans q) si
|exc x r'=>exact fun pz e s' σ' G' H' q=>h pz e s' σ' G' H' (w.trans q)
|stuck=>exact h
def aG(s1 s2:FS):FS:=fun r=>match s1 r with
|.nx r'=>s2 r'
|o=>o
def aV:FS:=fun r=>.nx r
theorem aW:fF X g ro mb m [] aV m:=⟨rfl,eD.imp HJ fun D σ H ⟨r,G,si,q⟩=>q σ G H (cF.refl G) si⟩
theorem aM(h1:SS X g ro mb m st s1 m1)(h2:fF X g ro mb m1 sts s2 m'):fF X g ro mb m (st::sts) (aG s1 s2) m':=by refine⟨h2.1.trans h1.1,eD.imp (BJ h1.2 h2.2) fun D σ H ⟨r,G,si,q⟩=>⟨r,G,si,?_⟩⟩;unfold aG at q;cases e:s1 r with
|nx r'=>rw[e]at q;exact fun σ' G' H' w si'=>⟨r',G',si',c9.gle q w⟩
|rt d=>rw[e]at q;exact q
|bk r'=>rw[e]at q;exact q
|ct r'=>rw[e]at q;exact q
|exc x r'=>rw[e]at q;exact fun pz e s' σ' G' H' w si'=>q pz e s' σ' G' H' w (by rw[wN h2.1];exact si')
|stuck=>rw[e]at q;exact q
theorem vE:SS X g ro mb m st (fun _=>.stuck) m:=⟨rfl,PS.imp Sb fun D σ H ⟨r,G,si,q⟩=>q⟩
theorem rB:fF X g ro mb m sts (fun _=>.stuck) m:=⟨rfl,eD.imp Td fun D σ H ⟨r,G,si,q⟩=>q⟩
theorem mK(i:Nat)(hi:m[i]? = some .ow)(h:SS X g ro mb (m.set i .sh) st s1 m'):SS X g ro mb m st s1 m':=by
 refine⟨h.1.trans (by simp),fun pz s σ H D I ⟨r,G,si,q⟩=>?_⟩;rcases si.frz i hi with⟨G',le,si'⟩|⟨a,z⟩
 .exact h.2 pz s σ H D I ⟨r,G',si',c9.gle q le⟩
 .obtain⟨ob,I2⟩:=Inv.fast I a;obtain⟨G',le,si'⟩:=z ob;exact h.2 pz s σ _ D I2 ⟨r,G',si',c9.gle q le⟩
def iU{α:Type}(m:List Md)(r:aQ)(x:Res α)(k:α->Out):Out:=match x with
|.ok a=>k a
|.exc e=>.exc e (forget m r)
|.stuck=>.stuck
@[simp] theorem onE_ok{α:Type}(m:List Md)(r:aQ)(a:α)(k:α->Out):iU m r (.ok a) k=k a:=rfl
theorem gP{α:Type}{x:Res α}{k:α->Out}{r:aQ}{G:GH}{D:Ends}{σ:L2.St}{H:Hp}(si:SI X g m r G σ H)(hl:m'.length=m.length)(h:c9 X g ro m' mb G D (iU m r x k)):fin x (fun a=>c9 X g ro m' mb G D (k a)) (XW X σ G H):=by cases x with
|ok a=>exact h
|exc e=>exact c9.x h si hl
|stuck=>exact h
def aR(m:List Md)(i:Nat)(f:FE):FS:=fun r=>iU m r (f r) fun d=>.nx (r.set i (some d))
theorem V2(i:Nat){x:Str}(hN:X.N.Nodup)(hi:X.N[i]? = some x)(hx:kF X.env.scope x)(he:SE X g m e f)(hs:Qb5 e (some (.Name x pos')) pos.line X.env=pure false:=by rfl)(hf:X.fn x=true\/X.env.scope.names.lookup x=some .local:=by first|exact .inl rfl|exact .inr rfl|assumption):SS X g ro mb m (.Assign [.Name x pos'] e pos) (aR m i f) (m.set i .sh):=by
 have hl:(m.set i .sh).length=m.length:=by simp
 refine⟨hl,PS.imp (FH hN hi hx he hs hf) fun D σ H ⟨r,G,si,q⟩=>⟨r,G,si,?_⟩⟩;exact cJ (gP si hl q) fun d q v G' H' w rv=>q _ G' H' w.ge ((si.grow w).set i rv)
theorem eI(i:Nat){x:Str}(hN:X.N.Nodup)(hi:X.N[i]? = some x)(hx:kF X.env.scope x)(he:SO X g m e f)(hs:Qb5 e (some (.Name x pos')) pos.line X.env=pure false:=by rfl)(hf:X.fn x=true\/X.env.scope.names.lookup x=some .local:=by first|exact .inl rfl|exact .inr rfl|assumption):SS X g ro mb m (.Assign [.Name x pos'] e pos) (aR m i f) (m.set i .ow):=by
 have hl:(m.set i .ow).length=m.length:=by simp
 refine⟨hl,PS.imp (FH hN hi hx he hs hf) fun D σ H ⟨r,G,si,q⟩=>⟨r,G,si,?_⟩⟩;exact cJ (gP si hl q) fun d q a G' H' w hn ho=>q _ G' H' w.ge (si.setN w i hn ho)
def jl(m:List Md)(f:FE):FS:=fun r=>iU m r (f r) fun _=>.nx r
theorem pC(he:SE X g m e f)(hs:Qb5 e none pos.line X.env=pure false:=by rfl):SS X g ro mb m (.Expr e pos) (jl m f) m:=⟨rfl,PS.imp (vA he hs) fun D σ H ⟨r,G,si,q⟩=>⟨r,G,si,cJ (gP si rfl q) fun d q v G' H' w _=>q σ G' H' w.ge (si.grow w)⟩⟩
def aS(m:List Md)(f:FE):FS:=fun r=>iU m r (f r) fun d=>.rt d
theorem bU(he:SE X g m e f):SS X g false mb m (.Return (some e) pos) (aS m f) m:=⟨rfl,PS.imp (AV he) fun D σ H ⟨r,G,si,q⟩=>⟨r,G,si,cJ (gP si rfl q) fun d q v G' H' w rv=>q v G' H' (si.grow w).grown rv⟩⟩
theorem Oc(i:Nat){x:Str}(hm:m[i]? = some .ow)(hN:X.N[i]? = some x)(hv:iY X.env.scope x)(hd:(x==("__debug__" : Str))=false:=by decide)(U:(x==("__classdict__" : Str))=false:=by decide):SS X g true mb m (.Return (some (.Name x pos')) pos) (aS m fun r=>fZ r i) m:=by refine⟨rfl,PS.imp (AV (jR hN hv hd U)) fun D σ H ⟨r,G,si,q⟩=>?_⟩;obtain⟨d,e,q⟩:=vV (gP si rfl q);obtain⟨a,h1,h2,h3⟩:=si.ow i d e hm;exact⟨_,h1,q _ G H si.grown (.inl ⟨a,rfl,h3,h2⟩)⟩
def dj(m:List Md)(p:FQ)(s1 s2:FS):FS:=fun r=>iU m r (p r) fun c=>if c=true then s1 r else s2 r
theorem bX(hc:SQ X g m c p)(h1:fF X g ro mb m sts s1 m')(h2:fF X g ro mb m sts' s2 m'):SS X g ro mb m (.If c sts sts' pos) (dj m p s1 s2) m':=by refine⟨h1.1,PS.imp (VU hc h1.2 h2.2) fun D σ H ⟨r,G,si,q⟩=>⟨r,G,si,cJ (gP si h1.1 q) fun c q G' H' w=>?_⟩⟩;cases c with
|true=>rw[if_pos rfl]at q ⊢;exact⟨r,G',si.grow w,c9.gle q w.ge⟩
|false=>rw[if_neg d_]at q ⊢;exact⟨r,G',si.grow w,c9.gle q w.ge⟩
theorem Js(i:Nat)(h:fF X g ro mb m sts s1 m')(hi:m'[i]? = some .ow):fF X g ro mb m sts s1 (m'.set i .sh):=by
 refine⟨by simp[h.1],fun pz s σ H D I ⟨r,G,si,q⟩=>?_⟩;refine bR (h.2 pz s σ H ⟨fun σ' H'=>D.nx σ' H'\/∃a,∀ob,D.nx σ' (fz H' a ob),D.rt,D.bk,D.ct⟩ I ⟨r,G,si,?_⟩) fun f s' p=>?_
 .cases e:s1 r with
 |nx r'=>
   rw[e]at q;intro σ' G' H' w si';rcases si'.frz i hi with⟨G2,le,U⟩|⟨a,z⟩
   .exact .inl (q σ' G2 H' (w.trans le) U)
   .refine .inr ⟨a,fun ob=>?_⟩;obtain⟨G2,le,U⟩:=z ob;exact q σ' G2 _ (w.trans le) U
 |rt d=>rw[e]at q;exact q
 |bk r'=>rw[e]at q;exact q
 |ct r'=>rw[e]at q;exact q
 |exc x r'=>rw[e]at q;exact fun pz e s' σ' G' H' w si'=>q pz e s' σ' G' H' w (by rw[wN (m:=m') (by simp)];exact si')
 |stuck=>rw[e]at q;exact q
 .cases f with
 |next=>
   obtain⟨σ',H',I',z|⟨a,z⟩⟩:=p
   .exact⟨σ',H',I',z⟩
   .obtain⟨ob,I2⟩:=Inv.fast I' a;exact⟨σ',_,I2,z ob⟩
 |brk=>exact p
 |cont=>exact p
 |ret u=>exact p
end
abbrev FT:=D->aQ->Option aQ
abbrev o6:=List D->aQ->Option aQ
def tG(X:Cx)(g:GE)(m m':List Md)(ft:FT):TG:=fun v σ H Q=>∃r G d,SI X g m r G σ H/\RG X.K G v d/\∃r',ft d r=some r'/\∀σ',SI X g m' r' G σ' H->Q σ' H
def WO(X:Cx)(g:GE)(m m':List Md)(ft:o6):li:=fun vs σ H Q=>∃r G ds,SI X g m r G σ H/\dB X.K G vs ds/\∃r',ft ds r=some r'/\∀σ',SI X g m' r' G σ' H->Q σ' H
theorem PG.imp{X:Cx}{e:Expr}{t t':TG}(h:PG X e t)(i:∀v σ H Q,t' v σ H Q->t v σ H Q):PG X e t':=fun pz s σ H v u Q I r q=>h pz s σ H v u Q I r (i v σ H Q q)
theorem kE.imp{X:Cx}{e:List Expr}{t t':li}(h:kE X e t)(i:∀v σ H Q,t' v σ H Q->t v σ H Q):kE X e t':=fun pz s σ H v u Q I r q=>h pz s σ H v u Q I r (i v σ H Q q)
def SG(X:Cx)(g:GE)(m:List Md)(tg:Expr)(ft:FT)(m':List Md):Prop:=m'.length=m.length/\PG X tg (tG X g m m' ft)
structure SGs(X:Cx)(g:GE)(m:List Md)(ts:List Expr)(n:Nat)(ft:o6)(m':List Md):Prop where
 ml:m'.length=m.length
 ln:∀ds r r',ft ds r=some r'->ds.length=n
 pg:kE X ts (WO X g m m' ft)
def bS(i:Nat):FT:=fun d r=>some (r.set i (some d))
def lc(ft:o6):FT:=fun d r=>match d with
|.tup ds=>ft ds r
|.lst ds=>ft ds r
|_=>none
def kJ:o6:=fun ds r=>match ds with
|[]=>some r
|_=>none
def fJ(ft:FT)(fts:o6):o6:=fun ds r=>match ds with
|[]=>none
|d::ds=>(ft d r).bind fun r'=>fts ds r'
variable{ft:FT}
section
variable{tg:Expr}{ts:List Expr}{fts:o6}{n:Nat}
theorem L5(i:Nat){x:Str}(hN:X.N.Nodup)(hi:X.N[i]? = some x)(hx:kF X.env.scope x)(hf:X.fn x=true\/X.env.scope.names.lookup x=some .local:=by first|exact .inl rfl|exact .inr rfl|assumption):SG X g m (.Name x pos) (bS i) (m.set i .sh):=⟨by simp,PG.imp (Qi hN hi hx hf) fun v σ H Q ⟨r,G,d,si,rv,r',e,k⟩=>by cases e;exact k _ (si.set i rv)⟩
theorem uE:SGs X g m [] 0 kJ m:=by
 refine⟨rfl,fun ds r r' e=>?_,kE.imp Qj fun v σ H Q ⟨r,G,ds,si,rv,r',e,k⟩=>?_⟩
 .cases ds with
 |nil=>rfl
 |cons _ _=>cases e
 .cases rv with
 |nil=>cases e;exact⟨rfl,k σ si⟩
 |cons _ _=>cases e
theorem kS(h1:SG X g m tg ft m1)(h2:SGs X g m1 ts n fts m')(hs:(Qa0 (tg::ts) X.env).map (·.2)=Qdc tg X.env::(Qa0 ts X.env).map (·.2):=by rfl):SGs X g m (tg::ts) (n+1) (fJ ft fts) m':=by
 refine⟨h2.ml.trans h1.1,fun ds r r' e=>?_,kE.imp (R8 h1.2 h2.pg hs) fun v σ H Q ⟨r,G,ds,si,rv,r',e,k⟩=>?_⟩
 .cases ds with
 |nil=>cases e
 |cons d ds=>have e':((ft d r).bind fun r'=>fts ds r')=some r':=e;cases q:ft d r with
  |none=>rw[q]at e';cases e'
  |some r1=>rw[q]at e';have:=h2.ln ds r1 r' e';simp[this]
 .cases rv with
 |nil=>cases e
 |@cons v0 d vs ds rv rs=>have e':((ft d r).bind fun r'=>fts ds r')=some r':=e;cases q:ft d r with
  |none=>rw[q]at e';cases e'
  |some r1=>rw[q]at e';exact⟨_,_,rfl,r,G,d,si,rv,r1,q,fun σ' si'=>⟨r1,G,ds,si',rs,r',e',k⟩⟩
theorem MW{k:Nat}{t:li}(hc:X.calm=true)(h:kE X ts t)(hn:(Qa0 ts X.env).length=n)(U:(Qa0 ts X.env).findIdx? (·.1)=none):PG X (.Tuple ts k pos) (fun v σ H Q=>∃a xs,v=.ref a/\cX X.K H a xs/\xs.length=n/\t xs σ H Q):=by intro pz s σ H v u Q I r hw;obtain⟨a,xs,e1,hq,hl,hw⟩:=hw;subst e1;cases r;obtain⟨its,rv,⟨o,nn,l1,l2,l3,l4⟩,hz⟩:=I.list hq;rw[PyProof.Rows.assign_Tuple];refine b_ (Qce ?_);unfold unpack;rw[U,show(Qa0 ts X.env).length=its.toArray.size by simp[hn,<-hl,rv.length]];refine b_ (Qa8 (W.kun_itemsOf (I.ok.hd hc) ⟨o,l1,l2,nn,l4⟩ fun h' hx=>?_));have I1:Inv X pz σ H { s with heap:=h' }:=I.kept (t':=s.toks) fun b o e=>hx b o (S_ (w_ e)) e;exact h pz _ σ H xs _ Q I1 (by simpa using rv) hw
theorem PG.or{e:Expr}{t t':TG}(h:PG X e t)(h':PG X e t'):PG X e (fun v σ H Q=>t v σ H Q\/t' v σ H Q):=fun pz s σ H v u Q I r q=>q.elim (h pz s σ H v u Q I r) (h' pz s σ H v u Q I r)
theorem uF{k:Nat}(hc:X.calm=true)(h:SGs X g m ts n fts m')(hn:(Qa0 ts X.env).length=n:=by rfl)(U:(Qa0 ts X.env).findIdx? (·.1)=none:=by rfl):SG X g m (.Tuple ts k pos) (lc fts) m':=by refine⟨h.ml,PG.imp (PG.or (MV hc h.pg hn U) (MW hc h.pg hn U)) fun v σ H Q ⟨r,G,d,si,rv,r',e,k⟩=>?_⟩;cases d with
|tup ds=>obtain⟨a,xs,rfl,s,rs⟩:=rv.tup si.gok;exact .inl ⟨a,xs,rfl,s,(Paired.length rs).trans (h.ln ds r r' e),r,G,ds,si,rs,r',e,k⟩
|lst ds=>obtain⟨a,xs,rfl,s,rs⟩:=rv.lst si.gok;exact .inr ⟨a,xs,rfl,s,(Paired.length rs).trans (h.ln ds r r' e),r,G,ds,si,rs,r',e,k⟩
|_=>cases e
end
structure Yields(K:W.Frag)(J:It)(ds:List D)(G0:GH):Prop where
 go:∀G H (i:Nat),cF G0 G->cp K G H->i<ds.length->J.go i H
 yld:∀G H (i:Nat) x H' d,cF G0 G->cp K G H->J.yld i H x H'->ds[i]? = some d->∃G',Grow K G H G' H'/\RG K G' x d
 stop:∀G H,cF G0 G->cp K G H->J.stop ds.length H
abbrev FI:=aQ->Res (List D)
def tI(X:Cx)(g:GE)(m:List Md)(f:FI):TI:=fun σ H R=>∃r G,SI X g m r G σ H/\fin (f r) (fun ds=>∀J G' H',Grow X.K G H G' H'->Yields X.K J ds G'->R J H') (XW X σ G H)
def kD(X:Cx)(g:GE)(m:List Md)(tg iter:Expr)(f:FI):Prop:=PI X tg iter (tI X g m f)
theorem PI.imp{X:Cx}{tg e:Expr}{t t':TI}(h:PI X tg e t)(i:∀σ H Q,t' σ H Q->t σ H Q):PI X tg e t':=fun pz s σ H R I q=>h pz s σ H R I (i σ H R q)
theorem BE{K:W.Frag}{a:Addr}{ds:List D}{G0:GH}(h0:RG K G0 (.ref a) (.lst ds)):Yields K (tR K a) ds G0:=by
 have at_:∀G H,cF G0 G->cp K G H->∃xs,cX K H a xs/\dB K G xs ds:=fun G H w gk=>by obtain⟨b,xs,e,s,r⟩:=(h0.mono w).lst gk;cases e;exact⟨xs,s,r⟩
 refine⟨fun G H i w gk hi=>?_,fun G H i x H' d w gk y e=>?_,fun G H w gk=>?_⟩
 .obtain⟨xs,s,r⟩:=at_ G H w gk;have hl:=Paired.length r;exact⟨xs,xs[i],s,f_ (by omega)⟩
 .obtain⟨xs,s,r⟩:=at_ G H w gk;obtain⟨rfl,y⟩:=y;obtain⟨v,e1,rv⟩:=Paired.get r e;have:=y xs s;rw[e1]at this;cases this;exact⟨G,Grow.refl gk,rv⟩
 .obtain⟨xs,s,r⟩:=at_ G H w gk;exact⟨xs,s,QcA (Paired.length r)⟩
theorem A3{K:W.Frag}{a:Addr}{ds:List D}{G0:GH}(h0:RG K G0 (.ref a) (.tup ds)):Yields K (EU K a) ds G0:=by
 have at_:∀G H,cF G0 G->cp K G H->∃xs,dG K H a xs/\dB K G xs ds:=fun G H w gk=>by obtain⟨b,xs,e,s,r⟩:=(h0.mono w).tup gk;cases e;exact⟨xs,s,r⟩
 refine⟨fun G H i w gk hi=>?_,fun G H i x H' d w gk y e=>?_,fun G H w gk=>?_⟩
 .obtain⟨xs,s,r⟩:=at_ G H w gk;have hl:=Paired.length r;exact⟨xs,xs[i],s,f_ (by omega)⟩
 .obtain⟨xs,s,r⟩:=at_ G H w gk;obtain⟨rfl,y⟩:=y;obtain⟨v,e1,rv⟩:=Paired.get r e;have:=y xs s;rw[e1]at this;cases this;exact⟨G,Grow.refl gk,rv⟩
 .obtain⟨xs,s,r⟩:=at_ G H w gk;exact⟨xs,s,QcA (Paired.length r)⟩
def fq(lo:Int)(n:Nat):List D:=(e_ n).map fun(i:Nat)=>D.int (lo+(i:Int))
theorem NS{K:W.Frag}{lo:Int}{n:Nat}{G0:GH}:Yields K (Af lo n) (fq lo n) G0:=by
 have hl:(fq lo n).length=n:=by simp[fq]
 refine⟨fun G H i w gk hi=>(by rw[hl]at hi;exact hi),fun G H i x H' d w gk y e=>?_,fun G H w gk=>(by rw[hl];exact r_ _)⟩;obtain⟨rfl,rfl⟩:=y;have hi:i<n:=by have:=(m_.mp e).1;rw[hl]at this;exact this
 unfold fq at e;rw[u_,Qax hi]at e;cases e;exact⟨G,Grow.refl gk,.scl (.int _)⟩
def dy:D->Option (List D)
|.lst ds=>some ds
|.tup ds=>some ds
|_=>none
variable{iter:Expr}
section
variable{tg:Expr}
def bP(k:D->Option (List D))(f:FE):FI:=fun r=>(f r).bind fun d=>fA (k d)
theorem AU{l:Expr}{tl:TE}(hl:PE X l tl):PI X tg l (fun σ H R=>tl σ H fun x H1=>(∃a,x=.ref a/\(∃xs,cX X.K H1 a xs)/\R (tR X.K a) H1)\/∃a,x=.ref a/\(∃xs,dG X.K H1 a xs)/\R (EU X.K a) H1):=by
 intro pz s σ H R I h;refine bR (hl pz s σ H _ I h) fun v s1 ⟨x,H1,I1,r1,q1⟩=>?_;rcases q1 with⟨a,e,⟨xs,hq⟩,q⟩|⟨a,e,⟨xs,hq⟩,q⟩
 .subst e;cases r1;obtain⟨its,rv,p,hz⟩:=I1.list hq;refine wpAny_pyIter_list p.isList ?_;refine⟨s1.heap.objs.size,[s1.heap.objs.size],_,_,H1,rfl,I1.kept (t':=s1.toks) fun b o e=>i_ _ e,TU a _,⟨_,B_ _ rfl,rfl,rfl⟩,fun b hb=>?_,q⟩;have e:b=s1.heap.objs.size:=by simpa using hb
  subst e;exact I1.fpOk (r_ _) (I1.hok.fresh (r_ _))
 .subst e;cases r1;obtain⟨its,rv,p,hz⟩:=I1.tuple hq;refine Qcr (show s1.heap.IsTuple a its.toArray from p) ?_;refine⟨s1.heap.objs.size,[s1.heap.objs.size],_,_,H1,rfl,I1.kept (t':=s1.toks) fun b o e=>i_ _ e,Ub a _,⟨_,B_ _ rfl,rfl,rfl⟩,fun b hb=>?_,q⟩;have e:b=s1.heap.objs.size:=by simpa using hb
  subst e;exact I1.fpOk (r_ _) (I1.hok.fresh (r_ _))
theorem mG(h:SE X g m e f):kD X g m tg e (bP dy f):=by
 refine PI.imp (AU h) fun σ H R ⟨r,G,si,q⟩=>⟨r,G,si,cJ (cN q) fun d q v G' H' w rv=>?_⟩
 obtain⟨ds,e,q⟩:=dU q;cases d with
|lst ds'=>cases e;obtain⟨a,xs,rfl,s,rs⟩:=rv.lst w.ok;exact .inl ⟨a,rfl,⟨xs,s⟩,q _ G' H' w (BE rv)⟩
|tup ds'=>cases e;obtain⟨a,xs,rfl,s,rs⟩:=rv.tup w.ok;exact .inr ⟨a,rfl,⟨xs,s⟩,q _ G' H' w (A3 rv)⟩
|_=>cases e
structure YieldsC(K:W.Frag)(J:It)(ds:List D)(G0:GH)(H0:Hp):Prop where
 go:∀G H (i:Nat),Grow K G0 H0 G H->i<ds.length->J.go i H
 yld:∀G H (i:Nat) x H' d,Grow K G0 H0 G H->J.yld i H x H'->ds[i]? = some d->∃G',Grow K G H G' H'/\RG K G' x d
 stop:∀G H,Grow K G0 H0 G H->J.stop ds.length H
theorem Yields.toC{K:W.Frag}{J:It}{ds:List D}{G0:GH}{H0:Hp}(y:Yields K J ds G0):YieldsC K J ds G0 H0:=⟨fun G H i w hi=>y.go G H i w.ge w.ok hi,fun G H i x H' d w q e=>y.yld G H i x H' d w.ge w.ok q e,fun G H w=>y.stop G H w.ge w.ok⟩
def WM(X:Cx)(g:GE)(m:List Md)(f:FI):TI:=fun σ H R=>∃r G,SI X g m r G σ H/\fin (f r) (fun ds=>∀J G' H',Grow X.K G H G' H'->YieldsC X.K J ds G' H'->R J H') (XW X σ G H)
def jH(X:Cx)(g:GE)(m:List Md)(tg iter:Expr)(f:FI):Prop:=PI X tg iter (WM X g m f)
theorem kD.toC{fi:FI}(h:kD X g m tg iter fi):jH X g m tg iter fi:=PI.imp h fun σ H R ⟨r,G,si,q⟩=>⟨r,G,si,cJ q fun ds k J G' H' w y=>k J G' H' w y.toC⟩
theorem NR{K:W.Frag}{a:Addr}{ds:List D}{G0:GH}{H0:Hp}(o:Own K G0 H0 a (.lst ds)):YieldsC K (tR K a) ds G0 H0:=by
 have at_:∀G H,Grow K G0 H0 G H->∃xs,cX K H a xs/\dB K G xs ds:=fun G H w=>by cases(o.mono w).ob with
 |lst r s=>exact⟨_,cX.of r,s⟩
 refine⟨fun G H i w hi=>?_,fun G H i x H' d w y e=>?_,fun G H w=>?_⟩
 .obtain⟨xs,s,r⟩:=at_ G H w;have hl:=Paired.length r;exact⟨xs,xs[i],s,f_ (by omega)⟩
 .obtain⟨xs,s,r⟩:=at_ G H w;obtain⟨rfl,y⟩:=y;obtain⟨v,e1,rv⟩:=Paired.get r e;have:=y xs s;rw[e1]at this;cases this;exact⟨G,Grow.refl w.ok,rv⟩
 .obtain⟨xs,s,r⟩:=at_ G H w;exact⟨xs,s,QcA (Paired.length r)⟩
theorem jq(h:SB X g m e f):jH X g m tg e (bP dy f):=by
 refine PI.imp (AU h) fun σ H R ⟨r,G,si,q⟩=>⟨r,G,si,cJ (cN q) fun d q v G' H' w rv=>?_⟩
 obtain⟨ds,e,q⟩:=dU q;cases d with
|lst ds'=>
  cases e;rcases rv with rv|⟨a,rfl,o⟩
  .obtain⟨a,xs,rfl,s,rs⟩:=rv.lst w.ok;exact .inl ⟨a,rfl,⟨xs,s⟩,q _ G' H' w (BE rv).toC⟩
  .cases o.ob with
  |lst r s=>exact .inl ⟨a,rfl,⟨_,cX.of r⟩,q _ G' H' w (NR o)⟩
|tup ds'=>
  cases e;rcases rv with rv|⟨a,rfl,o⟩
  .obtain⟨a,xs,rfl,s,rs⟩:=rv.tup w.ok;exact .inr ⟨a,rfl,⟨xs,s⟩,q _ G' H' w (A3 rv).toC⟩
  .cases o.ob
|_=>cases e
def dO:List D->Option (List D)
|[.int j]=>if-(2^62)<=j/\j<2^62 then some (fq 0 j.toNat)else none
|_=>none
def dX(k:List D->Option (List D))(fl:aQ->Res (List D)):FI:=fun r=>(fl r).bind fun ds=>fA (k ds)
theorem j3{pn:Pos}(hg:Gl X "range")(hm:X.mg "range" = none)(ha:j4 X g m [a] fl)(hs:h_ [a] X.env=[(false,eval a X.env)]:=by rfl):kD X g m tg (.Call (.Name "range" pn) [a] [] pos) (dX dO fl):=by
 refine PI.imp (Tb hg hm ha hs) fun σ H R ⟨r,G,si,q⟩=>⟨r,G,si,cJ (cN q) fun ds q vs G' H' w rs=>?_⟩
 obtain⟨zs,e,q⟩:=dU q;unfold dO at e;split at e
 .split at e
  .rename_i j hj;cases e;cases rs with
  |cons r1 t=>cases t;exact⟨j,by rw[r1.int w.ok],hj.1,hj.2,q _ G' H' w NS⟩
  .cases e
 .cases e
def bM(ft:FT)(body:FS):List D->FS
|[],r=>.nx r
|d::ds,r=>match ft d r with
 |none=>.stuck
 |some r1=>match body r1 with
  |.nx r'=>bM ft body ds r'
  |.ct r'=>bM ft body ds r'
  |.bk r'=>.nx r'
  |o=>o
def eJ(m:List Md)(fi:FI)(ft:FT)(body:FS):FS:=fun r=>iU m r (fi r) fun ds=>bM ft body ds r
theorem jn(hp:Qc8 (E_ X.prog X.w) X.A X.env X.xe)(hc:X.calm=true){ft:FT}{fi:FI}(hi:kD X g m tg iter fi)(hg:SG X g m tg ft m)(hb:fF X g ro m m sts s1 m)(hs:∀x,QaH iter X.env x=pure x:=by intro _;rfl):SS X g ro mb m (.For tg iter sts [] pos) (eJ m fi ft s1) m:=by
 refine⟨rfl,PS.imp (uS hp hc hi hg.2 hb.2 hs) fun D σ H ⟨r,G,si,q⟩=>⟨r,G,si,cJ (gP si rfl q) fun ds q J G0 H0 w0 Y=>?_⟩⟩;refine⟨fun i n σ H=>∃r G,SI X g m r G σ H/\cF G0 G/\i<=ds.length/\n=ds.length-i/\c9 X g ro m mb G D (bM ft s1 (ds.drop i) r),⟨ds.length,r,G0,si.grow w0,cF.refl G0,Qaf _,rfl,c9.gle q w0.ge⟩,?_⟩
 rintro i n σ1 H1 ⟨r1,G1,si1,le1,hi,rfl,q1⟩
 by_cases hlt:i<ds.length
 .have hd:ds.drop i=ds[i]::ds.drop (i+1):=QaF hlt;rw[hd]at q1;unfold bM at q1;refine .inr ⟨Y.go G1 H1 i le1 si1.gok hlt,fun σ' H'=>∃r G,SI X g m r G σ' H'/\cF G0 G/\c9 X g ro m mb G D (bM ft s1 (ds.drop (i+1)) r),fun σ' H' ⟨r',G',si',le',q'⟩=>⟨ds.length-(i+1),by omega,r',G',si',le',hlt,rfl,q'⟩,fun x H' y=>?_⟩;obtain⟨G',w',rv⟩:=Y.yld G1 H1 i x H' ds[i] le1 si1.gok y (f_ hlt);have le':cF G0 G':=le1.trans w'.ge;cases BT:ft ds[i] r1 with
 |none=>simp only[BT]at q1;exact q1.elim
 |some r2=>simp only[BT]at q1;refine⟨r1,G',ds[i],si1.grow w',rv,r2,BT,fun σ2 Cl=>⟨r2,G',Cl,?_⟩⟩;cases eb:s1 r2 with
  |nx r'=>simp only[eb]at q1;exact fun σ3 G3 H3 U Z=>⟨r',G3,Z,le'.trans U,c9.gle q1 (cF.trans w'.ge U)⟩
  |ct r'=>simp only[eb]at q1;exact fun σ3 G3 H3 U Z=>⟨r',G3,Z,le'.trans U,c9.gle q1 (cF.trans w'.ge U)⟩
  |bk r'=>simp only[eb]at q1;exact fun σ3 G3 H3 U Z=>q1 σ3 G3 H3 (cF.trans w'.ge U) Z
  |rt d=>simp only[eb]at q1;exact q1
  |exc x r'=>simp only[eb]at q1;exact fun pz e s' σ3 G3 H3 U=>q1 pz e s' σ3 G3 H3 (cF.trans w'.ge U)
  |stuck=>simp only[eb]at q1;exact q1
 .have e:i=ds.length:=by omega
  subst e;rw[QbD]at q1;exact .inl ⟨Y.stop G1 H1 le1 si1.gok,q1 σ1 G1 H1 (cF.refl _) si1⟩
def dZ(m:List Md):List Md:=m.map fun x=>if x=Md.sh then Md.sh else Md.bw
def ny(m:List Md)(r:aQ)(st:L2.St)(G:GH)(H:Hp):GE:=⟨G,H,fun i=>if m[i]? = some Md.ow\/m[i]? = some Md.bw then some ((st[i]?).join,(r[i]?).join)else none⟩
theorem rL{m:List Md}{i:Nat}{x:Md}(h:m[i]? = some x):(dZ m)[i]? = some (if x=Md.sh then Md.sh else Md.bw):=by unfold dZ;rw[u_,h];rfl
theorem Q9{m:List Md}{i:Nat}(h:(dZ m)[i]? = some Md.sh):m[i]? = some Md.sh:=by cases q:m[i]? with
|none=>unfold dZ at h;rw[u_,q]at h;cases h
|some x=>rw[rL q]at h;cases x <;> first|rfl|(simp at h)
theorem Ic{m:List Md}{i:Nat}(h:(dZ m)[i]? = some Md.ow):False:=by cases q:m[i]? with
|none=>unfold dZ at h;rw[u_,q]at h;cases h
|some x=>rw[rL q]at h;cases x <;> simp at h
theorem lockM_bw{m:List Md}{i:Nat}(h:(dZ m)[i]? = some Md.bw):m[i]? = some Md.ow\/m[i]? = some Md.bw:=by cases q:m[i]? with
|none=>unfold dZ at h;rw[u_,q]at h;cases h
|some x=>rw[rL q]at h;cases x with
 |sh=>simp at h
 |ow=>exact .inl rfl
 |bw=>exact .inr rfl
theorem SI.lock{r:aQ}{G:GH}{st:L2.St}{H:Hp}(s:SI X g m r G st H):SI X (ny m r st G H) (dZ m) r G st H where
 gok:=s.gok
 old:=fun _ _ e=>e
 ge:=fun _ _ e=>e
 gf:=fun _ _=>rfl
 lm:=by unfold dZ;rw[l_];exact s.lm
 lr:=s.lr
 sh:=fun i d h hm=>s.sh i d h (Q9 hm)
 ow:=fun i d h hm=>(Ic hm).elim
 bw:=fun i d h hm=>by
  rcases lockM_bw hm with z|z
  .obtain⟨a,h1,h2,_⟩:=s.ow i d h z;exact⟨_,h1,.inr ⟨a,rfl,h2,h2.ob.isS⟩⟩
  .obtain⟨v,h1,h2⟩:=s.bw i d h z;refine⟨v,h1,?_⟩;rcases h2 with h2|⟨a,e,h2,_⟩
   .exact .inl h2
   .exact .inr ⟨a,e,h2,h2.ob.isS⟩
 dis:=fun i j a d e _ _ _ hm=>(Ic hm).elim
 lk:=fun i o h hm=>by
  have h':(if m[i]? = some Md.ow\/m[i]? = some Md.bw then some ((st[i]?).join,(r[i]?).join)else none)=some o:=h;rw[if_pos (lockM_bw hm)]at h';cases h';have hi:i<st.length:=by have:=(m_.mp hm).1;unfold dZ at this;rw[l_,s.lm]at this;exact this
  refine⟨?_,fun d hd=>by rw[hd];rfl⟩;rw[f_ hi];rfl
theorem SI.unlock{r r':aQ}{G G':GH}{st st':L2.St}{H H':Hp}(s:SI X g m r G st H)(s':SI X (ny m r st G H) (dZ m) r' G' st' H'):SI X g m r' G' st' H':=by
 have w:Grow X.K G H G' H':=s'.grown;have U:∀(i:Nat),(m[i]? = some Md.ow\/m[i]? = some Md.bw)->st'[i]? = some (st[i]?).join/\∀d,r'[i]? = some (some d)->r[i]? = some (some d):=fun i hi=>by
  have hm:(dZ m)[i]? = some Md.bw:=by rcases hi with z|z <;> rw[rL z] <;> simp
  obtain⟨h1,h2⟩:=s'.lk i ((st[i]?).join,(r[i]?).join) (if_pos hi) hm;refine⟨h1,fun d hd=>?_⟩;have:=h2 d hd;cases q:r[i]? with
 |none=>rw[q]at this;cases this
 |some o=>rw[q]at this;rw[show o=some d from this]
 have Y:∀(i:Nat) v,(m[i]? = some Md.ow\/m[i]? = some Md.bw)->st[i]? = some (some v)->st'[i]? = some (some v):=fun i v hi h=>by rw[(U i hi).1,h];rfl
 refine⟨s'.gok,fun a o e=>s'.old a o (s.old a o e),fun a d e=>s'.ge a d (s.ge a d e),fun a h=>?_,?_,s'.lr,fun i d h hm=>?_,fun i d h hm=>?_,fun i d h hm=>?_,fun i j a d e hij h1 h2 m1 m2 q1 q2=>?_,fun i o hi hm=>?_⟩
 .have h1:H a≠none:=by cases e:g.h0 a with
  |none=>exact absurd e h
  |some o=>rw[s.old _ _ e];simp
  rw[w.gf a h1,s.gf a h]
 .have:=s'.lm;unfold dZ at this;rw[l_]at this;exact this
 .exact s'.sh i d h (by rw[rL hm];simp)
 .obtain⟨a,h1,h2,h3⟩:=s.ow i d ((U i (.inl hm)).2 d h) hm;exact⟨a,Y i _ (.inl hm) h1,h2.mono w,h3⟩
 .obtain⟨v,h1,h2⟩:=s.bw i d ((U i (.inr hm)).2 d h) hm;exact⟨v,Y i _ (.inr hm) h1,h2.grow w⟩
 .have e1:=(U i (.inl m1)).2 d h1;have e2:=(U j (.inl m2)).2 e h2;obtain⟨b,z1,_,_⟩:=s.ow i d e1 m1;obtain⟨c,z2,_,_⟩:=s.ow j e e2 m2;have y1:=Y i _ (.inl m1) z1;have y2:=Y j _ (.inl m2) z2;rw[q1]at y1;rw[q2]at y2;cases y1;cases y2;exact s.dis i j a d e hij e1 e2 m1 m2 z1 z2
 .obtain⟨h1,h2⟩:=s.lk i o hi hm;refine⟨?_,fun d hd=>h2 d ((U i (.inr hm)).2 d hd)⟩;rw[(U i (.inr hm)).1,h1];rfl
theorem SI.unlockX{r r':aQ}{G G':GH}{st st':L2.St}{H H':Hp}(s:SI X g m r G st H)(s':SI X (ny m r st G H) (fG (dZ m)) r' G' st' H'):SI X g (fG m) r' G' st' H':=by
 have w:Grow X.K G H G' H':=s'.grown;have el:fG (dZ m)=fG m:=wN (by unfold dZ;rw[l_]);rw[el]at s';have no:∀{i:Nat}{x:Md},(fG m)[i]? = some x->x=Md.sh:=fun{i x} h=>by unfold fG at h;rw[u_]at h;cases q:m[i]? with
 |none=>rw[q]at h;cases h
 |some y=>rw[q]at h;cases h;rfl
 refine⟨s'.gok,fun a o e=>s'.old a o (s.old a o e),fun a d e=>s'.ge a d (s.ge a d e),fun a h=>?_,s'.lm,s'.lr,s'.sh,fun i d h hm=>(nomatch (no hm)),fun i d h hm=>(nomatch (no hm)),fun i j a d e hij h1 h2 m1 m2=>(nomatch (no m1)),fun i o hi hm=>(nomatch (no hm))⟩;have h1:H a≠none:=by cases e:g.h0 a with
 |none=>exact absurd e h
 |some o=>rw[s.old _ _ e];simp
 rw[w.gf a h1,s.gf a h]
theorem FX(hp:Qc8 (E_ X.prog X.w) X.A X.env X.xe)(hc:X.calm=true){ft:FT}{fi:FI}(hi:jH X g m tg iter fi)(hg:∀g',SG X g' (dZ m) tg ft (dZ m))(hb:∀g',fF X g' ro (dZ m) (dZ m) sts s1 (dZ m))(hs:∀x,QaH iter X.env x=pure x:=by intro _;rfl):SS X g ro mb m (.For tg iter sts [] pos) (eJ m fi ft s1) m:=by
 have KK:PG X tg (fun v σ H Q=>∃g',tG X g' (dZ m) (dZ m) ft v σ H Q):=fun pz s σ H v u Q I r ⟨g',q⟩=>(hg g').2 pz s σ H v u Q I r q;have IO:eD X sts (fun D σ H=>∃g',tS X g' ro (dZ m) (dZ m) (dZ m) s1 D σ H):=fun pz s σ H D I ⟨g',q⟩=>(hb g').2 pz s σ H D I q;refine⟨rfl,PS.imp (uS hp hc hi KK IO hs) fun D σ H ⟨r,G,si,q⟩=>⟨r,G,si,cJ (gP si rfl q) fun ds q J G0 H0 w0 Y=>?_⟩⟩;have BT:=si.grow w0;refine⟨fun i n σ1 H1=>∃r1 G1,SI X (ny m r σ G0 H0) (dZ m) r1 G1 σ1 H1/\i<=ds.length/\n=ds.length-i/\c9 X g ro m mb G1 D (bM ft s1 (ds.drop i) r1),⟨ds.length,r,G0,BT.lock,Qaf _,rfl,c9.gle q w0.ge⟩,?_⟩
 rintro i n σ1 H1 ⟨r1,G1,si1,hi,rfl,q1⟩
 have wg:Grow X.K G0 H0 G1 H1:=si1.grown;by_cases hlt:i<ds.length
 .have hd:ds.drop i=ds[i]::ds.drop (i+1):=QaF hlt;rw[hd]at q1;unfold bM at q1;refine .inr ⟨Y.go G1 H1 i wg hlt,fun σ' H'=>∃r' G',SI X (ny m r σ G0 H0) (dZ m) r' G' σ' H'/\c9 X g ro m mb G' D (bM ft s1 (ds.drop (i+1)) r'),fun σ' H' ⟨r',G',si',q'⟩=>⟨ds.length-(i+1),by omega,r',G',si',hlt,rfl,q'⟩,fun x H' y=>?_⟩;obtain⟨G',w',rv⟩:=Y.yld G1 H1 i x H' ds[i] wg y (f_ hlt);cases Cl:ft ds[i] r1 with
 |none=>simp only[Cl]at q1;exact q1.elim
 |some r2=>simp only[Cl]at q1;refine⟨ny m r σ G0 H0,r1,G',ds[i],si1.grow w',rv,r2,Cl,fun σ2 LE=>⟨ny m r σ G0 H0,r2,G',LE,?_⟩⟩;cases eb:s1 r2 with
  |nx r'=>simp only[eb]at q1;exact fun σ3 G3 H3 Z U=>⟨r',G3,U,c9.gle q1 (cF.trans w'.ge Z)⟩
  |ct r'=>simp only[eb]at q1;exact fun σ3 G3 H3 Z U=>⟨r',G3,U,c9.gle q1 (cF.trans w'.ge Z)⟩
  |bk r'=>simp only[eb]at q1;exact fun σ3 G3 H3 Z U=>q1 σ3 G3 H3 (cF.trans w'.ge Z) (BT.unlock U)
  |rt d=>simp only[eb]at q1;intro v G2 H2 wr Id;refine q1 v G2 H2 (BT.grown.trans wr) ?_;cases ro with
   |false=>exact Id
   |true=>
     rcases Id with⟨a,e1,e2,e3⟩|z
     .exact .inl ⟨a,e1,BT.grown.back e2,e3⟩
     .exact .inr z
  |exc x r'=>simp only[eb]at q1;exact fun pz e s' σ3 G3 H3 Z U=>q1 pz e s' σ3 G3 H3 (cF.trans w'.ge Z) (BT.unlockX U)
  |stuck=>simp only[eb]at q1;exact q1
 .have e:i=ds.length:=by omega
  subst e;rw[QbD]at q1;exact .inl ⟨Y.stop G1 H1 wg,q1 σ1 G1 H1 (cF.refl _) (BT.unlock si1)⟩
def gp(m:List Md)(p:FQ)(body:FS):Nat->FS
|0,_=>.stuck
|n+1,r=>iU m r (p r) fun c=>if c=true then(match body r with
  |.nx r'=>gp m p body n r'
  |.ct r'=>gp m p body n r'
  |.bk r'=>.nx r'
  |o=>o)else .nx r
theorem vF(n:Nat)(hp:Qc8 (E_ X.prog X.w) X.A X.env X.xe)(hc:SQ X g m c p)(hb:fF X g ro m m sts s1 m):SS X g ro mb m (.While c sts [] pos) (gp m p s1 n) m:=by
 refine⟨rfl,PS.imp (Sc hp hc hb.2) fun D σ H ⟨r,G,si,q⟩=>?_⟩;refine⟨fun n σ H=>∃r G,SI X g m r G σ H/\c9 X g ro m mb G D (gp m p s1 n r),⟨n,r,G,si,q⟩,?_⟩
 rintro n σ1 H1 ⟨r1,G1,si1,q1⟩
 cases n with
|zero=>exact q1.elim
|succ n=>unfold gp at q1;refine⟨r1,G1,si1,cJ (gP si1 rfl q1) fun c q2 G2 H2 w2=>?_⟩;cases c with
 |false=>rw[if_neg d_]at q2 ⊢;exact q2 σ1 G2 H2 w2.ge (si1.grow w2)
 |true=>rw[if_pos rfl]at q2 ⊢;refine⟨fun σ' H'=>∃r G,SI X g m r G σ' H'/\c9 X g ro m mb G D (gp m p s1 n r),fun σ' H' h=>⟨n,Qa1 _,h⟩,r1,G2,si1.grow w2,?_⟩;cases eb:s1 r1 with
  |nx r'=>simp only[eb]at q2;exact fun σ3 G3 H3 U Y=>⟨r',G3,Y,c9.gle q2 (cF.trans w2.ge U)⟩
  |ct r'=>simp only[eb]at q2;exact fun σ3 G3 H3 U Y=>⟨r',G3,Y,c9.gle q2 (cF.trans w2.ge U)⟩
  |bk r'=>simp only[eb]at q2;exact fun σ3 G3 H3 U Y=>q2 σ3 G3 H3 (cF.trans w2.ge U) Y
  |rt d=>simp only[eb]at q2;exact q2
  |exc x r'=>simp only[eb]at q2;exact fun pz e s' σ3 G3 H3 U=>q2 pz e s' σ3 G3 H3 (cF.trans w2.ge U)
  |stuck=>simp only[eb]at q2;exact q2
end
def qf:Res D->Res D
|.ok d=>.ok d
|_=>.stuck
inductive ArgsOk(K:W.Frag)(G:GH)(H:Hp):List Md->List V->List D->Prop where
 |nil:ArgsOk K G H [] [] []
 |sh {v:V} {d:D} {ms:List Md} {vs:List V} {ds:List D}:RG K G v d->ArgsOk K G H ms vs ds->ArgsOk K G H (.sh::ms) (v::vs) (d::ds)
 |bw {v:V} {d:D} {ms:List Md} {vs:List V} {ds:List D}:RB K G H v d->ArgsOk K G H ms vs ds->ArgsOk K G H (.bw::ms) (v::vs) (d::ds)
theorem ArgsOk.len{ms:List Md}{vs:List V}{ds:List D}(h:ArgsOk K G H ms vs ds):vs.length=ms.length/\ds.length=ms.length:=by induction h with
|nil=>exact⟨rfl,rfl⟩
|sh h t ih=>exact⟨congrArg (· + 1) ih.1,congrArg (· + 1) ih.2⟩
|bw h t ih=>exact⟨congrArg (· + 1) ih.1,congrArg (· + 1) ih.2⟩
theorem ArgsOk.app{dvs:List V}{dds:List D}(hs:Paired Scl dvs dds):∀{ms:List Md}{vs:List V}{ds:List D},ArgsOk K G H ms vs ds->ArgsOk K G H (ms++p_ dds.length .sh) (vs++dvs) (ds++dds)
|_,_,_,.nil=>by induction hs with
 |nil=>exact .nil
 |cons h t ih=>exact .sh (.scl h) ih
|_,_,_,.sh h t=>.sh h (t.app hs)
|_,_,_,.bw h t=>.bw h (t.app hs)
theorem ArgsOk.get:∀{ms:List Md}{vs:List V}{ds:List D}{i:Nat}{d:D},ArgsOk K G H ms vs ds->ds[i]? = some d->∃v,vs[i]? = some v/\((ms[i]? = some .sh/\RG K G v d)\/(ms[i]? = some .bw/\RB K G H v d))
|_,_,_,_,_,.nil,e=>by simp at e
|_,_,_,0,_,.sh h t,e=>by simp at e;subst e;exact⟨_,rfl,.inl ⟨rfl,h⟩⟩
|_,_,_,0,_,.bw h t,e=>by simp at e;subst e;exact⟨_,rfl,.inr ⟨rfl,h⟩⟩
|_,_,_,i+1,d,.sh h t,e=>by obtain⟨v,h1,h2⟩:=t.get (i:=i) (d:=d) (by simpa using e);exact⟨v,by simpa using h1,by simpa using h2⟩
|_,_,_,i+1,d,.bw h t,e=>by obtain⟨v,h1,h2⟩:=t.get (i:=i) (d:=d) (by simpa using e);exact⟨v,by simpa using h1,by simpa using h2⟩
def ki(K:W.Frag)(ro:Bool)(ms:List Md)(F:List D->Res D):Sp:=fun vs H Q _=>∃G ds,cp K G H/\ArgsOk K G H ms vs ds/\fin (F ds) (fun d=>∀v G' H',Grow K G H G' H'->RV ro K H G' H' v d->Q v H') fun _=>False
def aT(ro:Bool):Out->Res D
|.nx _=>if ro=true then .stuck else .ok .non
|.rt d=>.ok d
|.exc x _=>.exc x
|_=>.stuck
def bL(n:Nat)(ds:List D):aQ:=ds.map some++p_ (n-ds.length) none
def hX(n:Nat)(ms:List Md):List Md:=ms++p_ (n-ms.length) .sh
variable{w:Z_}
section
variable{P:H_}{mg:Str->Option a_}{base:Heap}
theorem rC{X:Cx}{N:List Str}{ms:List Md}{vs:List V}{ds:List D}{G:GH}{H:Hp}(gk:cp X.K G H)(rs:ArgsOk X.K G H ms vs ds)(hn:ms.length<=N.length):SI X ⟨G,H,fun _=>none⟩ (hX N.length ms) (bL N.length ds) G (L2.cz N vs) H:=by
 obtain⟨l1,l2⟩:=rs.len;have e1:(L2.cz N vs).length=N.length:=by unfold L2.cz;rw[Y_,l_,Qbh];omega
 have e2:(bL N.length ds).length=N.length:=by unfold bL;rw[Y_,l_,Qbh];omega
 have e3:(hX N.length ms).length=N.length:=by unfold hX;rw[Y_,Qbh];omega
 have at_:∀(i:Nat) d,(bL N.length ds)[i]? = some (some d)->i<ms.length/\(hX N.length ms)[i]? = ms[i]?/\∃v,(L2.cz N vs)[i]? = some (some v)/\((ms[i]? = some .sh/\RG X.K G v d)\/(ms[i]? = some .bw/\RB X.K G H v d)):=fun i d h=>by
  unfold bL at h;by_cases hi:i<ds.length
  .rw[Qaj (by simpa using hi),u_]at h;have hd:ds[i]? = some d:=by cases z:ds[i]? with
   |none=>rw[z]at h;cases h
   |some d'=>rw[z]at h;cases h;rfl
   obtain⟨v,hv,rv⟩:=rs.get hd;refine⟨by omega,?_,v,?_,rv⟩
   .unfold hX;rw[Qaj (by omega)]
   .unfold L2.cz;rw[Qaj (by rw[l_];omega),u_,hv];rfl
  .rw[Qbd (by simpa using hi),QaP]at h;split at h <;> cases h
 refine⟨gk,fun _ _ e=>e,fun _ _ e=>e,fun _ _=>rfl,by rw[e3,e1],by rw[e1,e2],fun i d h hm=>?_,fun i d h hm=>?_,fun i d h hm=>?_,fun i j a d e _ h _ hm=>?_,fun i o h=>nomatch h⟩
 .obtain⟨_,hq,v,h1,h2⟩:=at_ i d h;rw[hq]at hm;rcases h2 with⟨_,h2⟩|⟨h3,h2⟩
  .exact⟨v,h1,h2⟩
  .rw[hm]at h3;cases h3
 .obtain⟨_,hq,v,h1,h2⟩:=at_ i d h;rw[hq]at hm;rcases h2 with⟨h3,h2⟩|⟨h3,h2⟩ <;> rw[hm]at h3 <;> cases h3
 .obtain⟨_,hq,v,h1,h2⟩:=at_ i d h;rw[hq]at hm;rcases h2 with⟨h3,h2⟩|⟨h3,h2⟩
  .rw[hm]at h3;cases h3
  .refine⟨v,h1,?_⟩;rcases h2 with h2|⟨a,rfl,h2⟩
   .exact .inl h2
   .exact .inr ⟨a,rfl,h2,h2.ob.isS⟩
 .obtain⟨_,hq,v,h1,h2⟩:=at_ i d h;rw[hq]at hm;rcases h2 with⟨h3,h2⟩|⟨h3,h2⟩ <;> rw[hm]at h3 <;> cases h3
theorem IB{X:Cx}{ro:Bool}{fs:FS}{m':List Md}{G:GH}{H:Hp}{r:aQ}{Q:VK}(q:fin (aT ro (fs r)) (fun d=>∀v G' H',Grow X.K G H G' H'->RV ro X.K H G' H' v d->Q v H') fun _=>False):c9 X ⟨G,H,fun _=>none⟩ ro m' [] G { nx:=fun _ H'=>Q .non H',rt:=Q } (fs r):=by cases e:fs r with
|nx r'=>rw[e]at q;cases ro with
 |false=>exact fun σ' G' H' _ si=>q .non G' H' si.grown (.scl .non)
 |true=>exact q.elim
|rt d=>rw[e]at q;exact fun v G' H' wg rv=>q v G' H' wg rv
|bk r'=>rw[e]at q;exact q.elim
|ct r'=>rw[e]at q;exact q.elim
|exc x r'=>rw[e]at q;exact q.elim
|stuck=>rw[e]at q;exact q
theorem AN{x qual:Str}{st:Stmt}{f:Addr}{fd:QaE}{N ps:List Str}{k:Nat}{ro:Bool}{ms:List Md}{fs:FS}{m':List Md}(F:Fun K x qual st f fd)(S:FnScope N ps (aF st))(hms:ms.length=ps.length)(U:∀(cdv:a_)(A:Qag)(outer:List Env)(s:c_)(H:Hp)(g:GE)(E:XK),Room k (A.deeper (QbJ qual (aF st) s.heap.objs.size f cdv)) ->fF (cw dm P w K mg base N qual (aF st) f cdv A outer s H E).nox g ro [] (hX N.length ms) (aN st) fs m'):FnOk P w K mg base dm (k+1) f fd ps (ki K ro ms fun ds=>aT ro (fs (bL N.length ds))):=by
 refine F.ok S (fun vs H Q E ⟨G,ds,gk,rs,q⟩=>rs.len.1.trans hms) fun cdv A outer s H vs Q E hr h=>?_;obtain⟨G,ds,gk,rs,q⟩:=h;have hpl:ps.length<=N.length:=by have:=congrArg Qb0 S.pre;rw[QaO]at this;omega
 exact⟨_,(U cdv A outer s H ⟨G,H,fun _=>none⟩ E hr).2,bL N.length ds,G,rC gk rs (by omega),IB q⟩
end
section
variable{k:Nat}{fa:Addr}{fd:QaE}{ps:List Str}{F:List D->Res D}{dvs:List V}{ds:List a_}{dds:List D}{x:Str}{p:Pos}{ms:List Md}
def WJ(X:Cx)(g:GE)(m:List Md)(ms:List Md)(f:aQ->Res (List D)):TA:=fun σ H Q=>∃r G,SI X g m r G σ H/\fin (f r) (fun ds=>∀vs G' H',Grow X.K G H G' H'->ArgsOk X.K G' H' ms vs ds->Q vs H') (XW X σ G H)
def iZ(X:Cx)(g:GE)(m:List Md)(es:List Expr)(ms:List Md)(f:aQ->Res (List D)):Prop:=PA X es (WJ X g m ms f)
theorem bG:iZ X g m [] [] aH:=PA.imp lB fun σ H Q ⟨r,G,si,k⟩=>k [] G H (Grow.refl si.gok) .nil
theorem bF(ha:SE X g m e f)(hr:iZ X g m es ms fl)(hs:h_ (e::es) X.env=(false,eval e X.env)::h_ es X.env:=by rfl):iZ X g m (e::es) (.sh::ms) (aI f fl):=by
 refine PA.imp (jt ha hr hs) fun σ H Q ⟨r,G,si,k⟩=>⟨r,G,si,cJ (cN k) fun d k1 v G1 H1 w1 r1=>⟨r,G1,si.grow w1,?_⟩⟩
 exact iN (cN k1) w1 fun ds z vs G2 H2 w2 r2=>z (v::vs) G2 H2 (w1.trans w2) (.sh (r1.mono w2.ge) r2)
theorem aK(ha:SB X g m e f)(hr:iZ X g m es ms fl)(hs:h_ (e::es) X.env=(false,eval e X.env)::h_ es X.env:=by rfl):iZ X g m (e::es) (.bw::ms) (aI f fl):=by
 refine PA.imp (jt ha hr hs) fun σ H Q ⟨r,G,si,k⟩=>⟨r,G,si,cJ (cN k) fun d k1 v G1 H1 w1 r1=>⟨r,G1,si.grow w1,?_⟩⟩
 exact iN (cN k1) w1 fun ds z vs G2 H2 w2 r2=>z (v::vs) G2 H2 (w1.trans w2) (.bw (r1.mono w2) r2)
def bI(fl:aQ->Res (List D))(dds:List D)(F:List D->Res D):FE:=fun r=>(fl r).bind fun ds=>qf (F (ds++dds))
theorem Jk{ro:Bool}{vs:List V}{zs:List D}{G:GH}{H:Hp}{Q:VK}(gk:cp X.K G H)(rs:ArgsOk X.K G H ms vs zs)(hsc:Paired Scl dvs dds)(q:fin (qf (F (zs++dds))) (fun d=>∀v G' H',Grow X.K G H G' H'->RV ro X.K H G' H' v d->Q v H') fun _=>False):ki X.K ro (ms++p_ dds.length .sh) F (vs++dvs) H Q E0:=by refine⟨G,zs++dds,gk,rs.app hsc,?_⟩;cases e:F (zs++dds)with
|ok d=>rw[e]at q;exact q
|exc x=>rw[e]at q;exact q.elim
|stuck=>rw[e]at q;exact q.elim
theorem wR{α:Type}{r:Res α}{q:α->Prop}{x:D->Prop}(h:fin r q x)(hr:∀e,r≠.exc e):fin r q fun _=>False:=by cases r with
|ok a=>exact h
|exc e=>exact absurd rfl (hr e)
|stuck=>exact h
theorem Gj(r:Res D)(e:D):qf r≠.exc e:=by cases r <;> simp[qf]
theorem N6(G1:FnOk X.prog X.w X.K X.mg X.base dm k fa fd ps (ki X.K false (ms++p_ dds.length .sh) F))(hr:Room k X.A)(hg:Gl X x)(hm:X.mg x=some (.ref fa))(hk:W.keepIn X.K (.ref fa)=true)(hb:g5 X.K fd ps ds)(hd:aP dvs ds)(hsc:Paired Scl dvs dds)(ha:iZ X g m (e::es) ms fl)(U:(x==("__debug__" : Str))=false:=by decide)(he:h_ (e::es) X.env=(false,eval e X.env)::h_ es X.env:=by rfl)(hpl:(backTo pos (h_ es X.env)).any (·.1)=false:=by rfl):SE X g m (.Call (.Name x p) (e::es) [] pos) (bI fl dds F):=by
 refine PE.imp (HF G1 hr hg hm hk hb hd qI ha U he hpl) fun σ H Q ⟨r,G,si,q⟩=>⟨r,G,si,?_⟩
 cases ez:fl r with
|ok zs=>unfold bI at q;rw[ez]at q;intro vs G' H' w' rs;exact Jk w'.ok rs hsc (cJ (wR q (Gj _)) fun d k v G2 H2 w2 rv=>k v G2 H2 (w'.trans w2) rv)
|exc x=>unfold bI at q;rw[ez]at q;exact q
|stuck=>unfold bI at q;rw[ez]at q;exact q
def kB(f:FE):FE:=fun r=>(f r).bind fun d=>match d with
|.non=>.stuck
|d=>.ok d
theorem Ng(G1:FnOk X.prog X.w X.K X.mg X.base dm k fa fd ps (ki X.K true (ms++p_ dds.length .sh) F))(hr:Room k X.A)(hg:Gl X x)(hm:X.mg x=some (.ref fa))(hk:W.keepIn X.K (.ref fa)=true)(hb:g5 X.K fd ps ds)(hd:aP dvs ds)(hsc:Paired Scl dvs dds)(ha:iZ X g m (e::es) ms fl)(U:(x==("__debug__" : Str))=false:=by decide)(he:h_ (e::es) X.env=(false,eval e X.env)::h_ es X.env:=by rfl)(hpl:(backTo pos (h_ es X.env)).any (·.1)=false:=by rfl):SO X g m (.Call (.Name x p) (e::es) [] pos) (kB (bI fl dds F)):=by
 refine PE.imp (HF G1 hr hg hm hk hb hd qI ha U he hpl) fun σ H Q ⟨r,G,si,q⟩=>⟨r,G,si,?_⟩
 cases ez:fl r with
|ok zs=>
  have q:=cN q;unfold bI at q;rw[ez]at q;intro vs G' H' w' rs;refine Jk w'.ok rs hsc (cJ (wR q (Gj _)) fun d k v G2 H2 w2 rv=>?_);rcases rv with⟨a,rfl,hn,ho⟩|⟨rfl,rfl⟩
  .cases d with
  |non=>exact k.elim
  |_=>exact k a G2 H2 (w'.trans w2) (w'.back hn) ho
  .exact k.elim
|exc x=>have q:=cN q;unfold bI at q;rw[ez]at q;exact q
|stuck=>have q:=cN q;unfold bI at q;rw[ez]at q;exact q
end
theorem QT{env:Env}:∀(l:List (Str×QbZ))(cs:List (Str×Addr)),(∀x∈l,x.2=.free->∃c,env.cells.lookup x.1=some c)->(∀x c,cs.lookup x=some c->env.cells.lookup x=some c) ->∃cl,(forIn l cs (fun(x:Str×QbZ)(cs:List (Str×Addr))=>if (x.2==NameKind.free)=true then(do let a <-cellOf env x.1;pure (ForInStep.yield ((x.1,a)::cs)))else pure (ForInStep.yield cs)):Sem (List (Str×Addr)))=pure cl /\(∀x c,cl.lookup x=some c->env.cells.lookup x=some c)/\(∀x,(x,NameKind.free)∈l->∃c,cl.lookup x=some c)/\(∀x c,cs.lookup x=some c->∃c',cl.lookup x=some c'):=by
 intro l
 induction l with
|nil=>intro cs _ h;exact⟨cs,rfl,h,fun x hx=>(by cases hx),fun x c h=>⟨c,h⟩⟩
|cons y l ih=>
  intro cs hf hc;obtain⟨n,k⟩:=y;by_cases hk:k=.free
  .subst hk;obtain⟨c,ec⟩:=hf (n,.free) j_ rfl;have e1:cellOf env n=pure c:=by unfold cellOf;rw[ec]
   have U:∀x c',((n,c)::cs).lookup x=some c'->env.cells.lookup x=some c':=fun x c' h=>by rw[QbE]at h;cases q:x==n with
   |true=>rw[q]at h;cases h;rw[QaQ q];exact ec
   |false=>rw[q]at h;exact hc x c' h
   obtain⟨cl,e2,h1,h2,h3⟩:=ih ((n,c)::cs) (fun x hx=>hf x (k_ _ hx)) U;refine⟨cl,?_,h1,fun x hx=>?_,fun x c' h=>?_⟩
   .rw[<-e2];rw[Qd0];show(cellOf env n >>= fun a=>pure (ForInStep.yield ((n,a)::cs))) >>= _=_;rw[e1];rfl
   .rcases t_.mp hx with z|z
    .cases z;exact h3 n c (by rw[QbE];simp)
    .exact h2 x z
   .cases q:x==n with
   |true=>exact h3 x c (by rw[QbE,q])
   |false=>exact h3 x c' (by rw[QbE,q];exact h)
  .obtain⟨cl,e2,h1,h2,h3⟩:=ih cs (fun x hx=>hf x (k_ _ hx)) hc;have hb:(k==NameKind.free)=false:=by simpa using hk
   refine⟨cl,?_,h1,fun x hx=>?_,h3⟩
   .rw[<-e2,Qd0];simp only[hb,Qew,if_false];rfl
   .rcases t_.mp hx with z|z
    .cases z;exact absurd rfl hk
    .exact h2 x z
theorem T2{scope:Qct}{env:Env}(hf:∀x∈scope.names,x.2=.free->∃c,env.cells.lookup x.1=some c):∃cl,QfF scope env=pure cl/\(∀x c,cl.lookup x=some c->env.cells.lookup x=some c)/\(∀x,(x,NameKind.free)∈scope.names->∃c,cl.lookup x=some c):=by obtain⟨cl,e,h1,h2,_⟩:=QT scope.names [] hf (fun x c h=>by cases h);refine⟨cl,?_,h1,h2⟩;have e0:QfF scope env=((forIn scope.names ([]:List (Str×Addr)) (fun(x:Str×QbZ)(cs:List (Str×Addr))=>if (x.2==NameKind.free)=true then(do let a <-cellOf env x.1;pure (ForInStep.yield ((x.1,a)::cs)))else pure (ForInStep.yield cs)):Sem (List (Str×Addr))) >>= fun cs=>pure cs):=rfl;rw[e0,e];rfl
theorem KP{f:Str->QbZ->QbZ}:∀(l:List (Str×QbZ))(x:Str),(l.map fun y=>(y.1,f y.1 y.2)).lookup x=(l.lookup x).map (f x)
|[],x=>rfl
|(n,k)::l,x=>by rw[o_,QbE,QbE];cases q:x==n with
 |true=>simp[QaQ q]
 |false=>exact KP l x
def gz(env:Env)(n:Str)(k:QbZ):QbZ:=if (k==.free&&env.scope.kind==.function&&env.kindOf n==some .cell)=true then .cell else k
theorem KQ(scope:Qct)(env:Env)(x:Str):(QeV scope env).names.lookup x=(scope.names.lookup x).map (gz env x):=by
 rw[<-KP];unfold QeV;congr 1;apply Qam;intro y _;obtain⟨n,k⟩:=y;show(if (k==NameKind.free&&env.scope.kind==.function&&env.kindOf n==some .cell)=true then(n,NameKind.cell)else(n,k))=(n,gz env n k)
 unfold gz;split <;> rfl
structure CompSc(X:Cx)(scope:Qct)(N':List Str)(nl:Nat)(cap:List Nat):Prop where
 kind:scope.kind=.function
 nocell:∀y∈scope.names,y.2≠.cell
 names:∀y∈scope.names,y.2=.local->scope.names.lookup y.1=some .local
 freeK:∀y∈scope.names,y.2=.free->X.env.kindOf y.1=some .cell\/X.env.kindOf y.1=some .free
 len:N'.length=nl+cap.length
 capN:∀j,j<cap.length->∃x,N'[nl+j]? = some x/\X.N[cap.getD j 0]? = some x/\scope.names.lookup x=some .free
def im(X:Cx)(s₀:c_)(H₀:Hp)(N':List Str)(scope:Qct)(cl:List (Str×Addr))(C:Addr)(fp:List Addr):Cx where
 prog:=X.prog
 w:=X.w
 K:=X.K
 mg:=X.mg
 base:=X.base
 A:=X.A
 N:=N'
 s₀:=s₀
 H₀:=H₀
 env:=Qeb scope cl C X.env
 outer:=X.stack
 stack:=X.stack
 ex:=fp
 fn:=fun _=>false
 calm:=X.calm
 pn:=[]
 xe:=fun _ _=>False
variable{pz:List (Addr×Obj)}{σ:L2.St}{s:c_}{scope:Qct}{N':List Str}{nl:Nat}{cap:List Nat}{cl:List (Str×Addr)}{C:Addr}{fp:List Addr}
theorem Mu(I:Inv X pz σ H s)(sc:CompSc X scope N' nl cap)(h1:∀x c,cl.lookup x=some c->X.env.cells.lookup x=some c)(h2:∀x,(x,NameKind.free)∈scope.names->∃c,cl.lookup x=some c)(hf:∀b∈fp,eY X pz H b/\b<s.heap.objs.size)(hC:s.heap.objs.size<=C):(im X s H N' scope cl C fp).Ok where
 mod:=I.ok.mod
 kind:=sc.kind
 glob:=I.ok.glob
 blt:=I.ok.blt
 above:=hC
 inj:=fun x y c a b=>I.ok.inj x y c (h1 x c a) (h1 y c b)
 has:=fun x hk=>by
  have U:(scope.names.lookup x).map (gz X.env x)=some .cell\/(scope.names.lookup x).map (gz X.env x)=some .free:=by rw[<-KQ];exact hk
  cases e:scope.names.lookup x with
 |none=>rw[e]at U;rcases U with z|z <;> cases z
 |some k=>
   have hm:=QaW e;have kf:k=.free:=by
    rw[e]at U;have Y:gz X.env x k=.cell\/gz X.env x k=.free:=by
     rcases U with z|z
     .exact .inl (J_ z)
     .exact .inr (J_ z)
    unfold gz at Y;split at Y
    .rename_i hc;simp only[M_,beq_iff_eq]at hc;exact hc.1.1
    .rcases Y with z|z
     .exact absurd z (sc.nocell _ hm)
     .exact z
   subst kf;exact h2 x hm
 cab:=fun x c h=>by cases h
 hd:=I.ok.hd
 frames:=I.ok.frames
 stk:=.inl rfl
 exf:=fun b hb=>⟨S_ (G_ (hf b hb).2 hC),fun x c e=>(hf b hb).1.2.2.2.2.1 x c (h1 x c e)⟩
 bs:=I.bs
 bsz:=L_ I.ok.bsz I.sz
 noex:=fun b o e hb=>by
  obtain⟨_,_,_,hx,_⟩:=(hf b hb).1;rcases hx with z|z
  .exact I.ok.noex b o e z
  .exact absurd (G_ (w_ e) (L_ I.ok.bsz z)) (QaB _)
 exfs:=fun b hb hfs=>by
  obtain⟨_,q1,q2,_⟩:=(hf b hb).1;rcases t_.mp (I.stkSub b hfs)with z|z
  .exact q1 z
  .exact q2 z
 funs:=I.stack
 frf:=I.stkFree
def iI(ft:FT)(q:FQ)(fe:FE)(r0:aQ):List D->Res (List D)
|[]=>.ok []
|d::ds=>(fA (ft d r0)).bind fun r1=>(q r1).bind fun c=>if c=true then(fe r1).bind fun v=>(iI ft q fe r0 ds).bind fun vs=>.ok (v::vs)else iI ft q fe r0 ds
def c7(nl:Nat)(cap:List Nat)(r:aQ):aQ:=p_ nl none++cap.map fun i=>r.getD i none
def bV(nl:Nat)(cap:List Nat)(m:List Md):List Md:=p_ nl Md.sh++cap.map fun i=>if m.getD i Md.sh=Md.sh then Md.sh else Md.bw
def fD(nl:Nat)(cap:List Nat)(st:L2.St):L2.St:=p_ nl none++cap.map fun i=>st.getD i none
theorem rq{α:Type}{nl:Nat}{cap:List Nat}{u:α}{h:Nat->α}{i:Nat}(hi:nl<=i):(p_ nl u++cap.map h)[i]? = (cap[i-nl]?).map h:=by rw[Qbd (by simpa using hi),Qbh,u_]
theorem Wz(si:SI X g m r G σ H)(w:Grow X.K G H G' H'):SI (im X s H N' scope cl C fp) ⟨G,H,fun _=>none⟩ (bV nl cap m) (c7 nl cap r) G' (fD nl cap σ) H':=by
 have KK:(bV nl cap m).length=nl+cap.length:=by simp[bV]
 have IO:(c7 nl cap r).length=nl+cap.length:=by simp[c7]
 have BT:(fD nl cap σ).length=nl+cap.length:=by simp[fD]
 have U:∀(i:Nat) d,(c7 nl cap r)[i]? = some (some d)->nl<=i/\∃j,cap[i-nl]? = some j/\r[j]? = some (some d):=fun i d h=>by
  by_cases hi:i<nl
  .unfold c7 at h;rw[Qaj (by simpa using hi),QaP]at h;split at h <;> cases h
  .refine⟨by omega,?_⟩;unfold c7 at h;rw[rq (by omega)]at h;cases e:cap[i-nl]? with
  |none=>rw[e]at h;cases h
  |some j=>rw[e]at h;refine⟨j,rfl,?_⟩;have h':r.getD j none=some d:=J_ h;rw[y_]at h';cases e2:r[j]? with
   |none=>rw[e2]at h';cases h'
   |some o=>rw[e2]at h';rw[show o=some d from h']
 have Y:∀(i j:Nat) md,nl<=i->cap[i-nl]? = some j->(bV nl cap m)[i]? = some md->md=if m.getD j Md.sh=Md.sh then Md.sh else Md.bw:=fun i j md hi hj h=>by unfold bV at h;rw[rq hi,hj]at h;exact(J_ h).symm
 have Z:∀(i j:Nat) v,nl<=i->cap[i-nl]? = some j->σ[j]? = some (some v)->(fD nl cap σ)[i]? = some (some v):=fun i j v hi hj h=>by unfold fD;rw[rq hi,hj];show some (σ.getD j none)=_;rw[y_,h];rfl
 have mj:∀(j:Nat) d,r[j]? = some (some d)->m[j]? = some (m.getD j Md.sh):=fun j d h=>by
  have hl:j<m.length:=by have:=(m_.mp h).1;rw[si.lr,<-si.lm]at this;exact this
  rw[y_,f_ hl];rfl
 refine⟨w.ok,w.he,w.ge,w.gf,by rw[KK,BT],by rw[IO,BT],fun i d h hm=>?_,fun i d h hm=>?_,fun i d h hm=>?_,fun i j a d e _ h _ hm=>?_,fun i o h=>nomatch h⟩
 .obtain⟨hi,j,hj,hr⟩:=U i d h;have e:=Y i j _ hi hj hm;have Id:m.getD j Md.sh=Md.sh:=by
   by_cases z:m.getD j Md.sh=Md.sh
   .exact z
   .rw[if_neg z]at e;cases e
  obtain⟨v,h1,h2⟩:=si.sh j d hr (by rw[mj j d hr,Id]);exact⟨v,Z i j v hi hj h1,h2.mono w.ge⟩
 .obtain⟨hi,j,hj,hr⟩:=U i d h;have e:=Y i j _ hi hj hm;split at e <;> cases e
 .obtain⟨hi,j,hj,hr⟩:=U i d h;have e:=Y i j _ hi hj hm;have Id:m.getD j Md.sh≠Md.sh:=by intro z;rw[if_pos z]at e;cases e
  have Cl:=mj j d hr;cases q:m.getD j Md.sh with
 |sh=>exact absurd q Id
 |ow=>rw[q]at Cl;obtain⟨a,h1,h2,_⟩:=si.ow j d hr Cl;exact⟨_,Z i j _ hi hj h1,.inr ⟨a,rfl,h2.mono w,h2.ob.isS⟩⟩
 |bw=>
   rw[q]at Cl;obtain⟨v,h1,h2⟩:=si.bw j d hr Cl;refine⟨v,Z i j _ hi hj h1,?_⟩;rcases h2 with h2|⟨a,rfl,h2,_⟩
   .exact .inl (h2.mono w.ge)
   .exact .inr ⟨a,rfl,h2.mono w,h2.ob.isS⟩
 .obtain⟨hi,j',hj,hr⟩:=U i d h;have e:=Y i j' _ hi hj hm;split at e <;> cases e
theorem Ms(I:Inv X pz σ H s)(ok:(im X s H N' scope cl C fp).Ok)(sc:CompSc X scope N' nl cap)(h1:∀x c,cl.lookup x=some c->X.env.cells.lookup x=some c)(h2:∀x,(x,NameKind.free)∈scope.names->∃c,cl.lookup x=some c)(hN:X.N.Nodup){s4:c_}{H4:Hp}{mc:Str->Option a_}(Cl:s4.os=s.os)(hb:Qcy s4.gens)(kp:∀b o,s.heap.get? b=some o->s4.heap.get? b=some o)(BT:s4.heap.Ns C mc)(hC:s.heap.objs.size<=C)(Id:H4 C=none)(hH:∀b,H b=none->b<s.heap.objs.size->H4 b=none)(un:Un (dh X.stack) fp H H4 s.heap s4.heap)(hok:HOk X.prog X.w H4 s4.heap):Inv (im X s H N' scope cl C fp) [] (fD nl cap σ) H4 s4:=by
 refine⟨ok,Cl,hb,un,⟨mc,BT,fun i x v e1 e2 e3=>?_⟩,fun x c e=>?_,Id,fun x c e=>?_,fun p hp=>absurd (show p∈([]:List (Addr×Obj))from hp) (by simp),hok,?_⟩
 .have hi:nl<=i:=by
   by_cases z:i<nl
   .unfold fD at e2;rw[Qaj (by simpa using z),QaP]at e2;split at e2 <;> cases e2
   .omega
  unfold fD at e2;rw[rq hi]at e2;cases ej:cap[i-nl]? with
 |none=>rw[ej]at e2;cases e2
 |some j=>
   rw[ej]at e2;have hj:i-nl<cap.length:=(m_.mp ej).1;obtain⟨x',q1,q2,q3⟩:=sc.capN (i-nl) hj;have ed:cap.getD (i-nl) 0=j:=by rw[y_,ej];rfl
   rw[ed]at q2;have ei:nl+(i-nl)=i:=by omega
   rw[ei]at q1;have Y:N'[i]? = some x:=e1;rw[q1]at Y;have ex:x'=x:=J_ Y;subst ex;have hv:σ[j]? = some (some v):=by have z:σ.getD j none=some v:=J_ e2;rw[y_]at z;cases q:σ[j]? with
   |none=>rw[q]at z;cases z
   |some o=>rw[q]at z;rw[show o=some v from z]
   have U:=QaW q3;have kX:=sc.freeK _ U rfl;obtain⟨mx,IO,hl⟩:=I.loc;obtain⟨u,ru,lk⟩:=hl j x' v q2 hv (.inr kX);refine⟨u,ru,.inr ?_⟩;obtain⟨c,ec⟩:=h2 x' U;have Z:Env.kindOf (im X s H N' scope cl C fp).env x'=some .cell\/Env.kindOf (im X s H N' scope cl C fp).env x'=some .free:=by
    have z:(QeV scope X.env).names.lookup x'=some (gz X.env x' .free):=by rw[KQ,q3];rfl
    show(QeV scope X.env).names.lookup x'=_\/(QeV scope X.env).names.lookup x'=_;rw[z];unfold gz;split
    .exact .inl rfl
    .exact .inr rfl
   refine⟨Z,c,ec,?_⟩;rcases lk with⟨k,_⟩|⟨_,c',ec',hcell⟩
   .rcases kX with z|z <;> rw[k]at z <;> cases z
   .rw[h1 x' c ec]at ec';cases ec';obtain⟨o,ho,hd⟩:=hcell;exact⟨o,kp c o ho,hd⟩
 .obtain⟨v,o,ho,hd⟩:=I.cell x c (h1 x c e);exact⟨v,o,kp c o ho,hd⟩
 .obtain⟨v,o,ho,hd⟩:=I.cell x c (h1 x c e);exact hH c (I.freeC x c (h1 x c e)) (w_ ho)
 .show(fD nl cap σ).length=N'.length;rw[sc.len];simp[fD]
section
variable{prog:H_}{A:Qag}{R:Qfv->c_->Prop}
theorem OW{elt target iter:Expr}{ifs:List Expr}{scope:Qct}{pos:Pos}{it acc:a_}{env:Env}(I:Nat->c_->Prop)(turn:∀n s,I n s->x_ (E_ prog w) A (pyNext it) (fun r s1=>match r with
  |none=>R (.ok .next) s1
  |some v=>x_ (E_ prog w) A (QcZ target it v) (fun _ U=>x_ (E_ prog w) A (Qdc target env v) (fun _ s2=>
     x_ (E_ prog w) A (forIn ifs true fun c r=>if r=true then do let ok <-isTrue c env (eval c env);pure (ForInStep.yield ok)else pure (ForInStep.yield r)) (fun ok s3=>
      if ok=true then x_ (E_ prog w) A (eval elt env) (fun x s4=>x_ (E_ prog w) A (call (.builtin "list.append") [acc,x]) (fun _ s5=>∃m,m<n/\I m s5) (QdU (E_ prog w) A env fun e s'=>R (.error e) s') s4) (QdU (E_ prog w) A env fun e s'=>R (.error e) s') s3
      else ∃m,m<n/\I m s3) (QdU (E_ prog w) A env fun e s'=>R (.error e) s') s2) (QdU (E_ prog w) A env fun e s'=>R (.error e) s') U)
     (QdU (E_ prog w) A env fun e s'=>R (.error e) s') s1) (QdU (E_ prog w) A env fun e s'=>R (.error e) s') s)(n:Nat)(h:I n s):QcS (E_ prog w) A (.compLoop (.ListComp elt [⟨target,iter,ifs,0⟩] scope pos) 0 it acc env) R s:=by refine codeAny_loop rfl I (fun n s hI=>?_) n h;show x_ _ A ((compTurn (.ListComp elt [⟨target,iter,ifs,0⟩] scope pos) 0 it acc env).onRaise (fun x=>do Qda x env;theTreesLotGoes x)) _ _ s;refine wpAny_noted ?_;rw[compTurn_list];refine b_ (Qce (b_ (Qan (turn n s hI) (fun r s1 h1=>?_) fun _ _ h'=>h')));cases r with
|none=>exact n_ h1
|some v=>refine b_ (Qan h1 (fun _ U Y=>?_) fun _ _ h'=>h');refine b_ (Qan Y (fun _ s2 h2=>b_ (Qan h2 (fun ok s3 h3=>?_) fun _ _ h'=>h')) fun _ _ h'=>h');cases ok with
 |false=>exact n_ ⟨rfl,h3⟩
 |true=>exact b_ (b_ (Qan h3 (fun x s4 h4=>b_ (Qan h4 (fun _ s5 h5=>n_ (n_ ⟨rfl,h5⟩)) fun _ _ h'=>h')) fun _ _ h'=>h'))
end
def oX(X:Cx)(g:GE)(m:List Md)(ifs:List Expr)(f:FQ):Prop:=∀(pz:List (Addr×Obj))(s:c_)(σ:L2.St)(H:Hp)(Q:Bool->Hp->Prop),Inv X pz σ H s->tQ X g m f σ H Q ->x_ (E_ X.prog X.w) X.A (forIn ifs true fun c r=>if r=true then do let ok <-isTrue c X.env (eval c X.env);pure (ForInStep.yield ok)else pure (ForInStep.yield r)) (TP X pz σ Q) X.xe s
theorem jS:oX X g m [] fun _=>.ok true:=fun pz s σ H Q I ⟨r,G,si,q⟩=>wpAny_tests_nil ⟨H,I,q G H (Grow.refl si.gok)⟩
theorem qR(h:SQ X g m c p):oX X g m [c] p:=fun pz s σ H Q I q=>wpAny_tests_one (h pz s σ H Q I q)
def mn(ft:FT)(nl:Nat):Prop:=∀d r r1,ft d r=some r1->r1.length=r.length/\∀i,nl<=i->r1[i]? = r[i]?
theorem hW{i nl:Nat}(h:i<nl):mn (bS i) nl:=fun d r r1 e=>by cases e;exact⟨by simp,fun j hj=>by rw[g_ (by omega)]⟩
variable{elt:Expr}{ifs:List Expr}{fe:FE}
section
variable{s2:c_}{tg:Expr}{J:It}{it:Addr}{tn:Nat->Heap->Prop}{ds vs:List D}{E:a_->c_->Prop}
theorem OT(i:Nat):(bV nl cap m)[i]?≠some Md.ow:=fun h=>by
 by_cases hi:i<nl
 .unfold bV at h;rw[Qaj (by simpa using hi),QaP]at h;split at h <;> cases h
 .unfold bV at h;rw[rq (by omega)]at h;cases e:cap[i-nl]? with
 |none=>rw[e]at h;cases h
 |some j=>rw[e]at h;have h':(if m.getD j Md.sh=Md.sh then Md.sh else Md.bw)=Md.ow:=J_ h;split at h' <;> cases h'
theorem RD{i:Nat}(hi:i<nl)(d:D):(c7 nl cap r)[i]?≠some (some d):=fun h=>by unfold c7 at h;rw[Qaj (by simpa using hi),QaP]at h;split at h <;> cases h
def Ek(El:W.Frag->GH->Hp->GH->Hp->V->D->Prop)(X:Cx)(g:GE)(m:List Md)(f:FE):TE:=fun σ H Q=>∃r G,SI X g m r G σ H/\fin (f r) (fun d=>∀v G' H',Grow X.K G H G' H'->El X.K G H G' H' v d->Q v H') (XW X σ G H)
theorem JT{El:W.Frag->GH->Hp->GH->Hp->V->D->Prop}{Rl:Addr->GH->Hp->List V->List D->Prop}(R0:∀p G H,Rl p G H [] [])(Rg:∀{p G H G' H' ws ds},Rl p G H ws ds->Grow X.K G H G' H'->Rl p G' H' ws ds)(Rn:∀{p G H ws ds},Rl p G H ws ds->ws.length=ds.length)(Ra:∀{p G H G' H' ws ds v d},Rl p G H ws ds->Grow X.K G H G' H'->Grow X.K G2 H2 G H->H p=some (.lst ws)->El X.K G H G' H' v d->Rl p G' (aY H' p (.lst (ws++[v]))) (ws++[v]) (ds++[d]))(hN:X.N.Nodup)(W5:X.calm=true)(sc:CompSc X scope N' nl cap)(h1:∀x c,cl.lookup x=some c->X.env.cells.lookup x=some c)(h2:∀x,(x,NameKind.free)∈scope.names->∃c,cl.lookup x=some c)(I2:Inv X pz σ H2 s2)(si:SI X g m r G2 σ H2)(T:Turn X.prog X.w X.K tg J fp it tn)(st:tn 0 s2.heap)(hf:∀b∈fp,eY X pz H2 b)(Y:YieldsC X.K J ds G2 H2)(hsz:ds.length<=sizeLine)(hg:∀C,SG (im X s2 H2 N' scope cl C fp) ⟨G2,H2,fun _=>none⟩ (bV nl cap m) tg ft (bV nl cap m))(Xl:mn ft nl)(hq:∀C,oX (im X s2 H2 N' scope cl C fp) ⟨G2,H2,fun _=>none⟩ (bV nl cap m) ifs q)(he:∀C,PE (im X s2 H2 N' scope cl C fp) elt (Ek El (im X s2 H2 N' scope cl C fp) ⟨G2,H2,fun _=>none⟩ (bV nl cap m) fe))(Xj:iI ft q fe (c7 nl cap r) ds=.ok vs){RR:a_->Addr->Qfv->c_->Prop}(Xn:∀(p C:Addr)(s':c_)(H':Hp)(G':GH),Inv X pz σ H' s'->(∃mm,s'.heap.Ns C mm)->H' C=none->C≠X.env.locals->X.s₀.heap.objs.size<=C->(∀x c,X.env.cells.lookup x=some c->c≠C)->(∀z∈X.pn++pz,z.1≠C) ->Grow X.K G2 H2 G' H'->H2 p=none->(∃ws,H' p=some (.lst ws)/\G' p=none/\Rl p G' H' ws vs)->RR (.ref p) C (.ok .next) s'):x_ (E_ X.prog X.w) X.A (newList []) (fun acc s3=>x_ (E_ X.prog X.w) X.A (newFunctionEnv scope X.env.globals cl [] X.env.qual none .none (some X.env)) (fun W0 s4=>QcS (E_ X.prog X.w) X.A (.compStart (.ListComp elt [⟨tg,iter,ifs,0⟩] scope pos) 0 (.ref it) acc { W0 with scope:=QeV scope X.env }) (RR acc W0.locals) s4) E s3) E s2:=by
 refine QaS (wpAny_newFunctionEnv sc.nocell (by intro y hy;simp at hy) (fun h₁ KK IO=>?_) sc.kind)
 dsimp only at KK IO ⊢
 generalize W2:s2.heap.push { cls:=.type "list",dict:=none,data:=.seq ([]:List a_).toArray }=HH at KK IO ⊢;have hC:HH.objs.size=s2.heap.objs.size+1:=by rw[<-W2,QbX]
 have Xb:s2.heap.objs.size≠HH.objs.size:=by rw[hC];exact S_ (Qa1 _)
 have Z:s2.heap.objs.size<=HH.objs.size:=by rw[hC];exact QcU _
 have Cl:∀b,b<s2.heap.objs.size->b≠HH.objs.size/\b≠s2.heap.objs.size:=fun b hb=>⟨by rw[hC];exact S_ (QcF hb),S_ hb⟩
 have old:∀b o,s2.heap.get? b=some o->h₁.get? b=some o:=fun b o e=>IO.extBut b o (Cl b (w_ e)).1 (i_ _ (W2▸i_ _ e));have Xg:h₁.get? s2.heap.objs.size=some { cls:=.type "list",dict:=none,data:=.seq ([]:List a_).toArray }:=IO.extBut _ _ Xb (i_ _ (W2▸B_ _ rfl));have Id:H2 s2.heap.objs.size=none:=I2.hok.fresh (r_ _);have LE:∀b∈fp,eY X pz H2 b/\b<s2.heap.objs.size:=fun b hb=>⟨hf b hb,by obtain⟨o,e,_⟩:=T.obj 0 s2.heap st b hb;exact w_ e⟩
 have ok:=Mu (fp:=fp) I2 sc h1 h2 LE Z;generalize U:im X s2 H2 N' scope cl HH.objs.size fp=XX at ok;have Xi:G2 s2.heap.objs.size=none:=si.gok.isN Id;have w0:Grow X.K G2 H2 G2 (aY H2 s2.heap.objs.size (.lst [])):=Grow.new si.gok Id _;have Xh:HOk X.prog X.w (aY H2 s2.heap.objs.size (.lst [])) h₁:=I2.hok.laid old (r_ _) ⟨Qaf _,[],0,.nil,Xg⟩;have IC:Inv XX [] (fD nl cap σ) (aY H2 s2.heap.objs.size (.lst [])) { s2 with heap:=h₁,toks:=s2.toks+([]:List (Str×a_)).length }:=by
  subst U;refine Ms I2 ok sc h1 h2 hN rfl I2.bare old KK Z ?_ (fun b hb hlt=>?_) (Un.laid old (r_ _) Id) Xh
  .rw[bT (Qby Xb)];exact I2.hok.fresh Z
  .rw[bT (Cl b hlt).2];exact hb
 have SC:SI XX ⟨G2,H2,fun _=>none⟩ (bV nl cap m) (c7 nl cap r) G2 (fD nl cap σ) (aY H2 s2.heap.objs.size (.lst [])):=by subst U;exact Wz si w0
 have W1:tn 0 h₁:=T.keep _ _ _ st fun b _ o e=>old b o e;have LT:∀(H':Hp),(∀b∈fp,H' b=none)->∀b∈fp,eY XX [] H' b:=fun H' hn b hb=>by
  clear IC SC;subst U;obtain⟨z0,z1,z2,z3,z4,z5⟩:=hf b hb;refine⟨hn b hb,?_,?_,?_,?_,?_⟩
  .exact(Cl b (LE b hb).2).1
  .intro hfs;rcases t_.mp (I2.stkSub b hfs)with z|z
   .exact z1 z
   .exact z2 z
  .exact .inl hb
  .exact fun x c e=>z4 x c (h1 x c e)
  .intro p hp;exact absurd (show p∈([]:List (Addr×Obj))from hp) (by simp)
 have eA:XX.A=X.A:=Eq.rec (motive:=fun z _=>z.A=X.A) rfl U;have eP:XX.prog=X.prog:=Eq.rec (motive:=fun z _=>z.prog=X.prog) rfl U;have eW:XX.w=X.w:=Eq.rec (motive:=fun z _=>z.w=X.w) rfl U;have eK:XX.K=X.K:=Eq.rec (motive:=fun z _=>z.K=X.K) rfl U;have eX:XX.xe=fun _ _=>False:=Eq.rec (motive:=fun z _=>z.xe=fun _ _=>False) rfl U;have eE:XX.env=Qeb scope cl HH.objs.size X.env:=Eq.rec (motive:=fun z _=>z.env=Qeb scope cl HH.objs.size X.env) rfl U;have eC:XX.calm=true:=Eq.rec (motive:=fun z _=>z.calm=true) W5 U;have eH:XX.H₀=H2:=Eq.rec (motive:=fun z _=>z.H₀=H2) rfl U;have Xd:PG XX tg (tG XX ⟨G2,H2,fun _=>none⟩ (bV nl cap m) (bV nl cap m) ft):=Eq.rec (motive:=fun z _=>PG z tg (tG z ⟨G2,H2,fun _=>none⟩ (bV nl cap m) (bV nl cap m) ft)) (hg _).2 U;have Xe:oX XX ⟨G2,H2,fun _=>none⟩ (bV nl cap m) ifs q:=Eq.rec (motive:=fun z _=>oX z ⟨G2,H2,fun _=>none⟩ (bV nl cap m) ifs q) (hq _) U;have Xa:PE XX elt (Ek El XX ⟨G2,H2,fun _=>none⟩ (bV nl cap m) fe):=Eq.rec (motive:=fun z _=>PE z elt (Ek El z ⟨G2,H2,fun _=>none⟩ (bV nl cap m) fe)) (he _) U;have Xk:∀{H':Hp}{s':c_}{σ':L2.St}{G':GH}{ws:List V},Inv XX [] σ' H' s'->Grow X.K G2 H2 G' H'->H' s2.heap.objs.size=some (.lst ws)->G' s2.heap.objs.size=none->Rl s2.heap.objs.size G' H' ws vs->RR (.ref s2.heap.objs.size) HH.objs.size (.ok .next) s':=fun{H' s' σ' G' ws} J1 wg hpp hgp rs=>by
  clear IC SC LT Xd Xe Xa eA eP eW eK eX eE eC eH;subst U;have un:=J1.base;refine Xn _ _ s' H' G' ?_ (let⟨mm,hn,_⟩:=J1.loc;⟨mm,hn⟩) J1.free (QbI (G_ I2.lt Z)) (L_ I2.sz Z) (fun x c e z=>?_) (fun z hz e=>?_) wg Id ⟨_,hpp,hgp,rs⟩
  .refine I2.call' J1.os un J1.hok J1.bare fun b hb=>?_;obtain⟨z0,z1,z2,z3,z4,z5⟩:=hf b hb;exact⟨z3,z1,z4,z5⟩
  .obtain⟨v,o,ho,_⟩:=I2.cell x c e;exact absurd (G_ (w_ ho) Z) (by rw[z];exact QaB _)
  .have:=(I2.pin z hz).1;exact absurd (G_ (w_ this) Z) (by rw[e];exact QaB _)
 have W4:QcS (E_ X.prog X.w) X.A (.compLoop (.ListComp elt [⟨tg,iter,ifs,0⟩] scope pos) 0 (.ref it) (.ref s2.heap.objs.size) (Qeb scope cl HH.objs.size X.env)) (RR (.ref s2.heap.objs.size) HH.objs.size)
   { s2 with heap:=h₁,toks:=s2.toks+([]:List (Str×a_)).length }:=by
  refine OW (fun n s'=>∃(i:Nat)(σ':L2.St)(H':Hp)(G':GH)(ws:List V)(done rest:List D),Inv XX [] σ' H' s'/\SI XX ⟨G2,H2,fun _=>none⟩ (bV nl cap m) (c7 nl cap r) G' σ' H'/\tn i s'.heap/\(∀b∈fp,H' b=none)/\Grow X.K G2 H2 G' H' /\H' s2.heap.objs.size=some (.lst ws)/\G' s2.heap.objs.size=none/\Rl s2.heap.objs.size G' H' ws done/\iI ft q fe (c7 nl cap r) (ds.drop i)=.ok rest/\vs=done++rest/\done.length<=i/\i<=ds.length/\n=ds.length-i) ?_ ds.length
   ⟨0,_,_,G2,[],[],vs,IC,SC,W1,fun b hb=>?_,w0,cV,Xi,R0 _ _ _,Xj,rfl,r_ _,Qaf _,rfl⟩
  rotate_left
  .rw[bT (Cl b (LE b hb).2).2];exact(hf b hb).1
  rintro n s3 ⟨i,σ3,H3,G3,ws,done,rest,I3,S3,st3,fr3,w3,hp3,hg3,rs3,hr3,hv3,hd3,hi3,rfl⟩
  have BT:∀{α:Type}{t:Sem α}{Q:α->c_->Prop}{s':c_}{E':a_->c_->Prop},x_ (E_ XX.prog XX.w) XX.A t Q XX.xe s'->x_ (E_ X.prog X.w) X.A t Q E' s':=fun h=>by rw[eP,eW,eA,eX]at h;exact Qan h (fun _ _ z=>z) fun _ _ z=>z.elim
  by_cases hlt:i<ds.length
  .have hd:ds.drop i=ds[i]::ds.drop (i+1):=QaF hlt;rw[hd]at hr3;unfold iI at hr3;have W6:=T.item XX eP eW eK eC i [] s3 σ3 H3 (QdU (E_ X.prog X.w) X.A (Qeb scope cl HH.objs.size X.env) fun e s'=>RR (.ref s2.heap.objs.size) HH.objs.size (.error e) s') I3 (LT H3 fr3) st3 (Y.go G3 H3 i w3 hlt);rw[eA]at W6;refine bR W6 fun rr s4 ⟨u,hr,h4⟩=>?_;subst hr;refine bR h4 fun _ s5 ⟨x,H5,I5,r5,y5,st5,fr5⟩=>?_;obtain⟨G5,w5,Xv⟩:=Y.yld G3 H3 i x H5 ds[i] w3 y5 (f_ hlt);have Xr:=w3.trans w5;cases Tm:ft ds[i] (c7 nl cap r)with
  |none=>rw[Tm]at hr3;cases hr3
  |some r1=>
    rw[Tm]at hr3;simp only[opt_some,bind_ok]at hr3;have Xt:=I5.pinned (LT H5 fr5) (T.obj _ _ st5);have S5:SI XX ⟨G2,H2,fun _=>none⟩ (bV nl cap m) (c7 nl cap r) G5 σ3 H5:=S3.grow (by rw[eK];exact w5);have Xf:RG XX.K G5 x ds[i]:=by rw[eK];exact Xv
    have W7:=Xd _ s5 σ3 H5 x u (fun σ6 H6=>H6=H5/\SI XX ⟨G2,H2,fun _=>none⟩ (bV nl cap m) r1 G5 σ6 H5) Xt r5 ⟨c7 nl cap r,G5,ds[i],S5,Xf,r1,Tm,fun σ6 Xq=>⟨rfl,Xq⟩⟩;rw[eE]at W7;refine bR (BT W7) fun _ s6 ⟨σ6,H6,I6,e6,S6⟩=>?_;subst e6;obtain⟨Xm,fl2⟩:=Xl _ _ _ Tm;cases Ty:q r1 with
   |stuck=>rw[Ty]at hr3;cases hr3
   |exc xx=>rw[Ty]at hr3;cases hr3
   |ok b1=>
     rw[Ty]at hr3;simp only[bind_ok]at hr3;have W8:=Xe _ s6 σ6 H6 (fun b H7=>b=b1/\∃G7,Grow X.K G5 H6 G7 H7) I6 ⟨r1,G5,S6,by rw[Ty];exact fun G7 H7 w7=>⟨rfl,G7,by rw[eK]at w7;exact w7⟩⟩;rw[eE]at W8;refine bR (BT W8) fun b s7 ⟨H7,I7,eb,G7,w7⟩=>?_;subst eb;have S7:SI XX ⟨G2,H2,fun _=>none⟩ (bV nl cap m) r1 G7 σ6 H7:=S6.grow (by rw[eK];exact w7);have W3:=Xr.trans w7;have ST:H7 s2.heap.objs.size=some (.lst ws):=w7.he _ _ (w5.he _ _ hp3);have W9:G7 s2.heap.objs.size=none:=by rw[w7.gf _ (by rw[w5.he _ _ hp3];simp),w5.gf _ (by rw[hp3];simp)];exact hg3
     have back:∀{WY:L2.St}{H8:Hp}{G8:GH}{s8:c_},Inv XX ([]++pA fp s5.heap) WY H8 s8->Inv XX [] WY H8 s8/\tn (i+1) s8.heap/\∀b∈fp,H8 b=none:=fun{WY H8 G8 s8} I8=>by refine⟨I8.unpinned,T.keep _ _ _ st5 fun b hb o e=>(I8.pin (b,o) (Q_ _ (Q_ _ (pX hb e)))).1,fun b hb=>?_⟩;obtain⟨o,e,_⟩:=T.obj _ _ st5 b hb;exact(I8.pin (b,o) (Q_ _ (Q_ _ (pX hb e)))).2.1
     have less:∀{WY:L2.St}{H8:Hp}{G8:GH},SI XX ⟨G2,H2,fun _=>none⟩ (bV nl cap m) r1 G8 WY H8->SI XX ⟨G2,H2,fun _=>none⟩ (bV nl cap m) (c7 nl cap r) G8 WY H8:=fun h=>h.less Xm.symm fun j d hj=>by
      by_cases Xo:j<nl
      .exact absurd hj (RD Xo d)
      .rw[fl2 j (by omega)];exact hj
     cases b with
    |false=>rw[if_neg d_]at hr3 ⊢;obtain⟨Xu,t7,f7⟩:=back (G8:=G7) I7;exact⟨ds.length-(i+1),by omega,i+1,σ6,H7,G7,ws,done,rest,Xu,less S7,t7,f7,W3,ST,W9,Rg rs3 (w5.trans w7),hr3,hv3,by omega,hlt,rfl⟩
    |true=>rw[if_pos rfl]at hr3 ⊢;cases WX:fe r1 with
     |stuck=>rw[WX]at hr3;cases hr3
     |exc xx=>rw[WX]at hr3;cases hr3
     |ok d1=>rw[WX]at hr3;simp only[bind_ok]at hr3;cases er:iI ft q fe (c7 nl cap r) (ds.drop (i+1))with
      |stuck=>rw[er]at hr3;cases hr3
      |exc xx=>rw[er]at hr3;cases hr3
      |ok rest'=>
        rw[er]at hr3;simp only[bind_ok]at hr3;cases hr3;have Xc:=Xa _ s7 σ6 H7 (fun v H8=>∃G8,Grow X.K G7 H7 G8 H8/\El X.K G7 H7 G8 H8 v d1) I7 ⟨r1,G7,S7,by rw[WX];exact fun v G8 H8 w8 rv=>⟨G8,by rw[eK]at w8;exact w8,by rw[eK]at rv;exact rv⟩⟩;rw[eE]at Xc;refine bR (BT Xc) fun u8 s8 ⟨v8,H8,I8,r8,G8,w8,rv8⟩=>?_;have Xw:H8 s2.heap.objs.size=some (.lst ws):=w8.he _ _ ST;have WZ:G8 s2.heap.objs.size=none:=by rw[w8.gf _ (by rw[ST];simp)];exact W9
        have S8:SI XX ⟨G2,H2,fun _=>none⟩ (bV nl cap m) r1 G8 σ6 H8:=S7.grow (by rw[eK];exact w8);have hlen:=Rn rs3;have Xp:=kg (X:=XX) _ s8 σ6 H8 (.ref s2.heap.objs.size) [v8] (.ref s2.heap.objs.size) [u8] (fun v H9=>H9=aY H8 s2.heap.objs.size (.lst (ws++[v8]))) I8 rfl (.cons r8 .nil) ⟨_,ws,v8,rfl,rfl,Xw,by omega,rfl⟩;refine bR (BT Xp) fun u9 s9 ⟨v9,H9,I9,r9,e9⟩=>?_;subst e9;obtain⟨Xs,t9,f9⟩:=back (G8:=G8) I9;have Xx:=Ra (Rg rs3 (w5.trans w7)) w8 W3 ST rv8;have WW:=W3.trans w8;refine⟨ds.length-(i+1),by omega,i+1,σ6,_,G8,ws++[v8],done++[d1],rest',Xs,less (S8.other WZ Id OT _),t9,f9,?_,cV,WZ,Xx,er,by rw[hv3,Qab];rfl,by rw[Y_,QcJ];omega,hlt,rfl⟩;refine⟨fun b e hb=>(WW.ok b e hb).mono (fun _ _ z=>z) fun o z=>?_,fun b o hb=>?_,WW.ge,WW.gf⟩
        .rw[bT (by rintro rfl;rw[WZ]at hb;cases hb)];exact z
        .rw[bT (by rintro rfl;rw[Id]at hb;cases hb)];exact WW.he b o hb
  .have e:i=ds.length:=by omega
   subst e;rw[QbD]at hr3;cases hr3;rw[W_]at hv3;subst hv3;have dn:=T.done XX eP eW eK eC ds.length [] s3 σ3 H3 (QdU (E_ X.prog X.w) X.A (Qeb scope cl HH.objs.size X.env) fun e s'=>RR (.ref s2.heap.objs.size) HH.objs.size (.error e) s') I3 (LT H3 fr3) st3 (Y.stop G3 H3 w3);rw[eA]at dn;refine bR dn fun rr s4 ⟨hr,I4⟩=>?_;subst hr;exact Xk I4 w3 hp3 hg3 rs3
 exact codeAny_compStart_list W4 (T.self X.A 0 _ _ _ W1 W4)
end
def tf:Res (List D)->Res (List D)
|.ok d=>.ok d
|_=>.stuck
@[simp] theorem noXL_ok(d:List D):tf (.ok d)=.ok d:=rfl
def eF(nl:Nat)(cap:List Nat)(fi:FI)(ft:FT)(q:FQ)(fe:FE):FE:=fun r=>(fi r).bind fun ds=>(fA (sz ds)).bind fun ds=>(tf (iI ft q fe (c7 nl cap r) ds)).bind fun vs=>.ok (.lst vs)
section
variable{tg:Expr}{spos:Pos}{fi:FI}
theorem Jn{r:aQ}{P:D->Prop}{x:D->Prop}(h:fin (eF nl cap fi ft q fe r) P x):fin (fi r) (fun ds=>∃vs,ds.length<=sizeLine/\iI ft q fe (c7 nl cap r) ds=.ok vs/\P (.lst vs)) x:=by unfold eF at h;refine cJ (cN h) fun ds h1=>?_;obtain⟨ds',e2,h2⟩:=dU (cN h1);obtain⟨rfl,hl⟩:=Aw e2;cases e3:iI ft q fe (c7 nl cap r) ds' with
|ok vs=>rw[e3]at h2;exact⟨vs,hl,rfl,h2⟩
|exc x=>rw[e3]at h2;exact h2.elim
|stuck=>rw[e3]at h2;exact h2.elim
theorem CompSc.clo{pz:List (Addr×Obj)}{σ:L2.St}{H:Hp}{s:c_}(sc:CompSc X scope N' nl cap)(ok:X.Ok):∃cl,QfF scope X.env=pure cl/\(∀x c,cl.lookup x=some c->X.env.cells.lookup x=some c)/\(∀x,(x,NameKind.free)∈scope.names->∃c,cl.lookup x=some c):=T2 fun y hy hf=>ok.has y.1 (sc.freeK y hy hf)
theorem jQ(hN:X.N.Nodup)(U:X.calm=true)(sc:CompSc X scope N' nl cap)(hi:jH X g m tg iter fi)(hg:∀s0 H0 cl C fp g',SG (im X s0 H0 N' scope cl C fp) g' (bV nl cap m) tg ft (bV nl cap m))(BT:mn ft nl)(hq:∀s0 H0 cl C fp g',oX (im X s0 H0 N' scope cl C fp) g' (bV nl cap m) ifs q)(he:∀s0 H0 cl C fp g',SE (im X s0 H0 N' scope cl C fp) g' (bV nl cap m) elt fe)(hs:∀x,QaH iter X.env x=pure x:=by intro _;rfl):SO X g m (.ListComp elt [⟨tg,iter,ifs,0⟩] scope pos) (eF nl cap fi ft q fe):=by
 intro pz s σ H Q I h;obtain⟨r,G,si,k⟩:=h;obtain⟨cl,hcl,h1,h2⟩:=sc.clo (pz:=pz) (σ:=σ) (H:=H) (s:=s) I.ok;have k1:=Jn k;rw[eval_ListComp];refine Qdv (use:=none) rfl hs hcl sc.kind sc.names (bR (hi pz s σ H (fun J H'=>∃G' ds vs,Grow X.K G H G' H'/\YieldsC X.K J ds G' H'/\ds.length<=sizeLine/\iI ft q fe (c7 nl cap r) ds=.ok vs /\(∀a G' H',Grow X.K G H G' H'->H a=none->Own X.K G' H' a (.lst vs)->Q (.ref a) H')) I ⟨r,G,si,cJ k1 fun ds ⟨vs,z1,z2,z3⟩ J G' H' w y=>⟨G',ds,vs,w,y,z1,z2,z3⟩⟩) fun v s1 hv=>bR hv fun itv s2 Id=>?_);obtain⟨it,fp,tn,J,H2,rfl,I2,T,st,hf,G2,ds,vs,w2,Y,hsz,Z,hQ⟩:=Id;refine JT (El:=fun K _ _ G' _ v d=>RG K G' v d) (Rl:=fun _ G _ ws ds=>dB X.K G ws ds) (fun _ _ _=>.nil) (fun h w=>h.mono w.ge) Paired.length (fun h w _ _ e=>Paired.snoc (h.mono w.ge) e) (RR:=fun acc C=>compPost (E_ X.prog X.w) X.A X.xe none (EP X pz σ Q) acc C) hN U sc h1 h2 I2 (si.grow w2) T st hf Y hsz (fun C=>hg _ _ _ _ _ _) BT (fun C=>hq _ _ _ _ _ _) (fun C=>he _ _ _ _ _ _) Z ?_;intro p C s' H' G' I' ST LT IO KK Cl LE w' hp ⟨ws,o1,o2,o3⟩;have ho:Own X.K G' H' p (.lst vs):=⟨o2,.lst o1 o3⟩
 obtain⟨mm,hn⟩:=ST;refine⟨mm,hn,fun h' hsb=>⟨.ref p,H',?_,rfl,hQ p G' H' (w2.trans w') (w2.back hp) ho⟩⟩;exact I'.turned (it:=C) (t':=s'.toks) (fun b o hb e=>hsb.extBut b o hb e) LT IO.symm.symm (.inr KK) Cl LE
theorem rM(i:Nat){y:Str}(hN:X.N.Nodup)(U:X.calm=true)(hy:X.N[i]? = some y)(Z:X.env.scope.names.lookup y=some .local)(sc:CompSc X scope N' nl cap)(hi:jH X g m tg iter fi)(hg:∀s0 H0 cl C fp g',SG (im X s0 H0 N' scope cl C fp) g' (bV nl cap m) tg ft (bV nl cap m))(KK:mn ft nl)(hq:∀s0 H0 cl C fp g',oX (im X s0 H0 N' scope cl C fp) g' (bV nl cap m) ifs q)(he:∀s0 H0 cl C fp g',SE (im X s0 H0 N' scope cl C fp) g' (bV nl cap m) elt fe)(Ty:Qb5 (.ListComp elt [⟨tg,iter,ifs,0⟩] scope pos) (some (.Name y pos')) spos.line X.env=pure true:=by rfl)(hs:∀x,QaH iter X.env x=pure x:=by intro _;rfl):SS X g ro mb m (.Assign [.Name y pos'] (.ListComp elt [⟨tg,iter,ifs,0⟩] scope pos) spos) (aR m i (eF nl cap fi ft q fe)) (m.set i .ow):=by
 refine⟨by simp,?_⟩;intro pz s σ H D0 I h;obtain⟨r,G,si,k⟩:=h;obtain⟨cl,hcl,h1,h2⟩:=sc.clo (pz:=pz) (σ:=σ) (H:=H) (s:=s) I.ok;have k1:=Jn (gP si (m':=m.set i .ow) (by simp) k);rw[exec_Assign_Name_used _ _ _ _ Ty];refine b_ (Qce (b_ ?_));show x_ _ X.A (do let _ <-comprehension (.ListComp elt [⟨tg,iter,ifs,0⟩] scope pos) scope X.env _ (newList []) false (eval iter X.env) (some (Qdc (.Name y pos') X.env))) _ _ s;refine b_ (Qan (Qdv (use:=some (Qdc (.Name y pos') X.env)) (Q:=fun _ s'=>SP X pz D0 .next s') rfl hs hcl sc.kind sc.names (bR (hi pz s σ H (fun J H'=>∃G' ds vs,Grow X.K G H G' H'/\YieldsC X.K J ds G' H'/\ds.length<=sizeLine/\iI ft q fe (c7 nl cap r) ds=.ok vs /\(∀σ' G' H',cF G G'->SI X g (m.set i .ow) (r.set i (some (.lst vs))) G' σ' H'->D0.nx σ' H')) I ⟨r,G,si,cJ k1 fun ds ⟨vs,z1,z2,z3⟩ J G' H' w y=>⟨G',ds,vs,w,y,z1,z2,z3⟩⟩) fun v s1 hv=>bR hv fun itv s2 Tm=>?_)) (fun _ s' hq=>n_ (n_ hq)) fun _ _ e=>e);obtain⟨it,fp,tn,J,H2,rfl,I2,T,st,hf,G2,ds,vs,w2,Y,hsz,Id,hQ⟩:=Tm;refine JT (El:=fun K _ _ G' _ v d=>RG K G' v d) (Rl:=fun _ G _ ws ds=>dB X.K G ws ds) (fun _ _ _=>.nil) (fun h w=>h.mono w.ge) Paired.length (fun h w _ _ e=>Paired.snoc (h.mono w.ge) e) (RR:=fun acc C=>compPost (E_ X.prog X.w) X.A X.xe (some (Qdc (.Name y pos') X.env)) (fun _ s'=>SP X pz D0 .next s') acc C) hN U sc h1 h2 I2 (si.grow w2) T st hf Y hsz (fun C=>hg _ _ _ _ _ _) KK (fun C=>hq _ _ _ _ _ _) (fun C=>he _ _ _ _ _ _) Id ?_;intro p C s' H' G' I' LT WW BT WX Cl ST w' hp ⟨ws,o1,o2,o3⟩;have ho:Own X.K G' H' p (.lst vs):=⟨o2,.lst o1 o3⟩
 obtain⟨mm,hn⟩:=LT;show x_ _ X.A (Qdc (.Name y pos') X.env (.ref p)) _ _ s';refine QeI (Jt I' hN hy (.inl Z) (v:=.ref p) rfl (fun s'' WY ⟨a,hsb,ha⟩=>?_) (.inr Z));have LE:C≠a:=by
  rcases ha with z|z
  .rw[z];exact BT
  .exact(Cl y a z).symm
 refine⟨mm,hn.sameBut hsb LE,fun h' IO=>?_⟩;refine⟨_,H',WY.turned (it:=C) (t':=s''.toks) (fun b o hb e=>IO.extBut b o hb e) WW BT (.inr WX) Cl ST,?_⟩;exact hQ _ G' H' (w2.trans w').ge (si.setN (w2.trans w') i (w2.back hp) ho)
end
def iu(K:W.Frag)(r:V->List V->Hp->VK->Prop)(mk:D->List D->Option D):Prop:=∀(G:GH)(H:Hp)(a:Addr)(d:D)(vs:List V)(ds:List D)(d':D)(Q:VK),cp K G H->Own K G H a d->dB K G vs ds->mk d ds=some d' ->(∀o',OwnO K G (aY H a o') a d'->Q .non (aY H a o'))->r (.ref a) vs H Q
def zZ(T:String):D->Bool
|.lst _=>T == "list"
|.dic _=>T == "dict"
|_=>false
def dg(T:String)(m:List Md)(i:Nat)(fl:aQ->Res (List D))(mk:D->List D->Option D):FS:=fun r=>match r[i]? with
|some (some d)=>if zZ T d=true then iU m r (fl r) fun ds=>(match mk d ds with
 |some d'=>.nx (r.set i (some d'))
 |none=>.stuck)else .stuck
|_=>.stuck
theorem NM{K:W.Frag}{G:GH}{H:Hp}{a:Addr}{d:D}{T:String}(o:Own K G H a d)(t:zZ T d=true):qc K T (.ref a) H:=by cases o.ob with
|lst r s=>exact .inl ⟨QaQ t,_,cX.of r⟩
|dic r s=>exact .inr (.inr (.inl ⟨QaQ t,.inl ⟨_,.inl r⟩⟩))
variable{o:Expr}
section
variable{apos cpos:Pos}{x name:Str}{R:V->List V->Hp->VK->Prop}{mk:D->List D->Option D}
theorem Ig(i:Nat)(hm:m[i]? = some .ow)(hk:iu X.K R mk){D0:Ends}{σ:L2.St}{H:Hp}(h:tS X g ro m m mb (dg T m i fl mk) D0 σ H):∃v,σ[i]? = some (some v)/\qc X.K T v H/\tL X g m fl σ H fun xs H2=>R v xs H2 fun _ H1=>D0.nx σ H1:=by obtain⟨r,G,si,k⟩:=h;unfold dg at k;cases er:r[i]? with
|none=>simp only[er]at k;exact(show False from k).elim
|some oo=>cases oo with
 |none=>simp only[er]at k;exact(show False from k).elim
 |some d=>
   simp only[er]at k;by_cases ht:zZ T d=true
   .rw[if_pos ht]at k;obtain⟨a,h1,h2,h3⟩:=si.mut hm er;refine⟨_,h1,NM h2 ht,r,G,si,cJ (gP si rfl k) fun ds k2 vs G' H' w rs=>?_⟩;cases em:mk d ds with
   |none=>simp only[em]at k2;exact(show False from k2).elim
   |some d'=>simp only[em]at k2;obtain⟨a',U,Y,h3'⟩:=(si.grow w).mut hm er;rw[h1]at U;cases U;exact hk G' H' a d vs ds d' _ w.ok Y rs em fun o' ob=>k2 σ G' _ w.ge (h3' o' d' ob)
   .rw[if_neg ht]at k;exact(show False from k).elim
theorem hU(i:Nat)(hm:m[i]? = some .ow)(pa:QdP T)(slot:Slot T name id)(KK:Qev (.builtin id)=pure (.type "method_descriptor"))(IO:lj X id R)(hk:iu X.K R mk)(hN:X.N[i]? = some x)(hv:iY X.env.scope x)(ha:SA X g m (e::es) fl)(hd:(x==("__debug__" : Str))=false:=by decide)(Id:(x==("__classdict__" : Str))=false:=by decide)(Z:Qa9 (.Name x pos') name X.env (eval (.Name x pos') X.env)=eval (.Name x pos') X.env:=by rfl)(BT:((backTo cpos (h_ (e::es) X.env)).all (fun x=>! x.1)&&(Qdf cpos (QbY [] X.env)).all (fun x=>x.1.isSome)&&decide ((e::es).length+([]:List QeP).length+(if ([]:List QeP).isEmpty then 0 else 1)<30))=true:=by rfl)(Y:(apos.endLine==cpos.line)=true:=by rfl)(Cl:h_ (e::es) X.env=(false,eval e X.env)::h_ es X.env:=by rfl)(U:(backTo cpos (h_ es X.env)).any (·.1)=false:=by rfl):SS X g ro mb m (.Expr (.Call (.Attribute (.Name x pos') name apos) (e::es) [] cpos) pos) (dg T m i fl mk) m:=⟨rfl,PS.imp (vA (Fe pa slot KK IO (jR hN hv hd Id) ha Z BT Y Cl U)) fun D0 σ H h=>Ig i hm hk h⟩
theorem Oa(i:Nat)(hm:m[i]? = some .ow)(pa:QdP T)(slot:Slot T name id)(Cl:Qev (.builtin id)=pure (.type "method_descriptor"))(BT:lj X id R)(hk:iu X.K R mk)(hN:X.N[i]? = some x)(hv:iY X.env.scope x)(hd:(x==("__debug__" : Str))=false:=by decide)(Z:(x==("__classdict__" : Str))=false:=by decide)(Y:Qa9 (.Name x pos') name X.env (eval (.Name x pos') X.env)=eval (.Name x pos') X.env:=by rfl)(U:(apos.endLine==cpos.line)=true:=by rfl):SS X g ro mb m (.Expr (.Call (.Attribute (.Name x pos') name apos) [] [] cpos) pos) (dg T m i aH mk) m:=by refine⟨rfl,PS.imp (vA (Gn pa slot Cl BT (jR hN hv hd Z) Y U)) fun D0 σ H h=>?_⟩;obtain⟨v,h1,h2,r,G,si,k⟩:=Ig i hm hk h;exact⟨v,h1,h2,k [] G H (Grow.refl si.gok) .nil⟩
def appD:D->List D->Option D
|.lst ds,[d]=>if ds.length<sizeLine then some (.lst (ds++[d]))else none
|_,_=>none
theorem kR{K:W.Frag}:iu K Hk appD:=by
 intro G H a d vs ds d' Q gk ow rs e q;unfold appD at e;split at e
 .split at e
  .rename_i hl;cases e;cases ow.ob with
  |lst r s=>cases rs with
   |cons r1 t=>cases t;have:=Paired.length s;exact⟨a,_,_,rfl,rfl,r,by omega,q _ (.lst cV (Paired.snoc s r1))⟩
  .cases e
 .cases e
theorem Paired.rev{α β:Type}{F:α->β->Prop}:∀{l:List α}{r:List β},Paired F l r->Paired F l.reverse r.reverse
|_,_,.nil=>.nil
|_,_,.cons h t=>by rw[QcE,QcE];exact Paired.snoc (Paired.rev t) h
def revD:D->List D->Option D
|.lst ds,[]=>some (.lst ds.reverse)
|_,_=>none
theorem NY{K:W.Frag}:iu K Io revD:=by
 intro G H a d vs ds d' Q gk ow rs e q;unfold revD at e;split at e
 .cases e;cases ow.ob with
 |lst r s=>cases rs;exact⟨a,_,rfl,rfl,r,q _ (.lst cV (Paired.rev s))⟩
 .cases e
def Ao(x:Int)(n:Nat):Nat:=if x<0 then(x+(n:Int)).toNat else min x.toNat n
def dD{α:Type}(xs:List α)(x:Int)(y:α):List α:=xs.take (Ao x xs.length)++y::xs.drop (Ao x xs.length)
def Hm:V->List V->Hp->VK->Prop:=fun x vs H Q=>∃l xs i y,x=.ref l/\vs=[.int i,y]/\H l=some (.lst xs)/\-(2^63)<=i/\i<2^63/\xs.length<sizeLine/\Q .non (aY H l (.lst (dD xs i y)))
theorem So:lj X "list.insert" Hm:=by
 intro pz s σ H x vs v us Q I rx rv h;obtain⟨l,xs,i,y,rfl,rfl,hH,h1,h2,hz,q⟩:=h;cases rx;obtain⟨u,w',rfl,⟨t,rfl⟩,ry⟩:=uJ rv;obtain⟨z,its,n,r,hl,e⟩:=I.lstM hH;have U:¬(! Qdi i)=true:=by rw[fitsIndex_both h1 h2];exact d_
 refine QcN Qdw ⟨_,e,rfl⟩ PySem.F.entry_list_insert (PySem.F.args_list_insert_3 _ _ _) (AutoListH.list_insert_list_int_val_1 l its.toArray n i t w' U (by rw[q_];omega)) ⟨e,?_⟩;refine⟨.non,_,I.lset (its':=dD its i w') hH e ?_ ?_ ?_,rfl,q⟩
 .show((its.toArray.extract 0 (if i<0 then(i+((its.toArray.size:Nat):Int)).toNat else min i.toNat its.toArray.size)).push w'++its.toArray.extract (if i<0 then(i+((its.toArray.size:Nat):Int)).toNat else min i.toNat its.toArray.size))=(dD its i w').toArray;rw[q_];unfold dD Ao;generalize(if i<0 then(i+((its.length:Nat):Int)).toNat else min i.toNat its.length)=k;apply Array.ext';simp;exact QdV (by rw[QcL];exact r_ _)
 .unfold dD;rw[hl];exact aP.append (r.take _) (.cons ry (r.drop _))
 .unfold dD;rw[Y_,K_,QaO,QcL];omega
def insD:D->List D->Option D
|.lst ds,[.int i,d]=>if ds.length<sizeLine/\-(2^63)<=i/\i<2^63 then some (.lst (dD ds i d))else none
|_,_=>none
theorem L9{α β:Type}{F:α->β->Prop}{l:List α}{r:List β}{x:α}{y:β}(h:Paired F l r)(i:Int)(U:F x y):Paired F (dD l i x) (dD r i y):=by unfold dD;rw[Paired.length h];exact Paired.app (Paired.tk _ h) (.cons U (Paired.dr _ h))
theorem Ma{K:W.Frag}:iu K Hm insD:=by
 intro G H a d vs ds d' Q gk ow rs e q;unfold insD at e;split at e
 .split at e
  .rename_i hl;cases e;cases ow.ob with
  |lst r s=>cases rs with
   |cons r1 t=>cases t with
    |cons r2 t=>cases t;have:=Paired.length s;exact⟨a,_,_,_,rfl,by rw[r1.int gk],r,hl.2.1,hl.2.2,by omega,q _ (.lst cV (L9 s _ r2))⟩
  .cases e
 .cases e
end
def eG:D->Bool
|.non=>true
|.bl _=>true
|.int _=>true
|.str _=>true
|_=>false
def gR:D->V
|.non=>.non
|.bl b=>.bl b
|.int i=>.int i
|.str x=>.str x
|_=>.non
def eqs(a b:D):Bool:=il (gR a) (gR b)
theorem RB.flat(h:RB K G H v d)(gk:cp K G H)(hf:eG d=true):v=gR d/\iJ v=true:=by cases d with
|non=>rw[h.non gk];exact⟨rfl,rfl⟩
|bl b=>rw[h.bl gk];exact⟨rfl,rfl⟩
|int i=>rw[h.int gk];exact⟨rfl,rfl⟩
|str x=>rw[h.str gk];exact⟨rfl,rfl⟩
|_=>cases hf
theorem E4{xs:List V}{ds:List D}(h:dB K G xs ds)(gk:cp K G H)(hf:ds.all eG=true):xs=ds.map gR/\xs.all iJ=true:=by induction h with
|nil=>exact⟨rfl,rfl⟩
|cons r t ih=>rw[Qba,M_]at hf;obtain⟨e1,e2⟩:=RB.flat (H:=H) r.rb gk hf.1;obtain⟨e3,e4⟩:=ih hf.2;exact⟨by rw[o_,<-e3,<-e1],by rw[Qba,e2,e4];rfl⟩
def fY:D->Option bJ
|.int i=>some (.inl i)
|.str x=>some (.inr x)
|_=>none
def dE(kvs:List (bJ×D))(k:bJ):Bool:=kvs.any fun kv=>decide (kv.1=k)
def cS(kvs:List (bJ×D))(k:bJ):Option D:=(kvs.find? fun kv=>decide (kv.1=k)).map (·.2)
def inB(x c:D):Option Bool:=match c with
|.lst ds=>if eG x=true/\ds.all eG=true then some (ds.any fun y=>eqs y x)else none
|.tup ds=>if eG x=true/\ds.all eG=true then some (ds.any fun y=>eqs y x)else none
|.dic kvs=>(fY x).map (dE kvs)
|.str y=>match x with
 |.str z=>some (!(Qa3 y z 0 y.length 1).isEmpty)
 |_=>none
|_=>none
def ji(x c:D):Option D:=(inB x c).map .bl
def fV(x c:D):Option D:=(inB x c).map fun b=>.bl (! b)
theorem F9{K:W.Frag}{G:GH}{k:bJ}{ps:List (bJ×V)}{kvs:List (bJ×D)}(h:fj K G ps kvs)(d:D)(e:cS kvs k=some d):∃v,d7 ps k=some v/\RG K G v d:=by induction h with
|nil=>cases e
|@cons p q ps kvs r t ih=>
  obtain⟨k1,v1⟩:=p;obtain⟨k2,d2⟩:=q;obtain⟨e1,r1⟩:=r;have U:k1=k2:=e1;subst U;by_cases hk:k1=k
  .subst hk;have:d2=d:=by simpa[cS,X_]using e
   subst this;exact⟨v1,wG rfl,r1⟩
  .have e':cS kvs k=some d:=by simpa[cS,X_,hk]using e
   obtain⟨v,h1,h2⟩:=ih e';exact⟨v,by rw[rF hk];exact h1,h2⟩
theorem Ss{K:W.Frag}{G:GH}{k:bJ}{ps:List (bJ×V)}{kvs:List (bJ×D)}(h:fj K G ps kvs)(e:cS kvs k=none):d7 ps k=none:=by induction h with
|nil=>rfl
|@cons p q ps kvs r t ih=>
  obtain⟨k1,v1⟩:=p;obtain⟨k2,d2⟩:=q;obtain⟨e1,r1⟩:=r;have U:k1=k2:=e1;subst U;by_cases hk:k1=k
  .subst hk;simp[cS,X_]at e
  .have e':cS kvs k=none:=by simpa[cS,X_,hk]using e
   rw[rF hk];exact ih e'
theorem L6(kvs:List (bJ×D))(k:bJ):dE kvs k=(cS kvs k).isSome:=by induction kvs with
|nil=>rfl
|cons p r ih=>
  by_cases e:p.1=k
  .simp[dE,cS,X_,e]
  .have h1:dE (p::r) k=dE r k:=by simp[dE,e]
   have h2:cS (p::r) k=cS r k:=by simp[cS,X_,e]
   rw[h1,h2,ih]
theorem AK{K:W.Frag}{G:GH}{H:Hp}{v:V}{d:D}{k:bJ}(gk:cp K G H)(h:RB K G H v d)(e:fY d=some k):v=kV k:=by cases d with
|int i=>cases e;exact h.int gk
|str x=>cases e;exact h.str gk
|_=>cases e
section
variable{fc:FE}
def oF(neg:Bool):R2:=fun y x H Q=>∃a o,x=.ref a/\jI H a y o/\Q (.bl (if neg then ! o.isSome else o.isSome)) H
theorem Nm(hu:X.A.units+1<Qbx):cM X (Qak .In) (oF false):=by intro pz s σ H y x u v Q I ry rx h;obtain⟨a,oo,rfl,hg,q⟩:=h;cases rx;exact EH hu I hg ry fun s' I'=>⟨.bl _,H,I',rfl,q⟩
theorem P9(hu:X.A.units+1<Qbx):cM X (Qak .NotIn) (oF true):=by intro pz s σ H y x u v Q I ry rx h;obtain⟨a,oo,rfl,hg,q⟩:=h;cases rx;exact OY hu I hg ry fun s' I'=>⟨.bl _,H,I',rfl,q⟩
def jx(K:W.Frag)(neg:Bool):R2:=fun x y H Q=>Ex K neg x y H Q\/oF neg x y H Q\/∃i j,x=.str i/\y=.str j/\Q (.bl (if neg then !(!(Qa3 j i 0 j.length 1).isEmpty)else !(Qa3 j i 0 j.length 1).isEmpty)) H
theorem Nl(hu:X.A.units+1<Qbx):cM X (Qak .In) (jx X.K false):=cM.or S4 (cM.or (Nm hu) S9)
theorem OS(hu:X.A.units+1<Qbx):cM X (Qak .NotIn) (jx X.K true):=cM.or UG (cM.or (P9 hu) UH)
theorem Hd{K:W.Frag}(neg:Bool):gb K (jx K neg) (fun x c=>(inB x c).map fun b=>.bl (if neg then ! b else b)):=by
 intro G H v1 v2 d1 d2 d Q gk r1 r2 e q;have seq:∀{xs:List V}{ds:List D}{p:Addr},dB K G xs ds->v2=.ref p->(cX K H p xs\/dG K H p xs)->eG d1=true->ds.all eG=true->d=.bl (if neg then !(ds.any fun y=>eqs y d1)else ds.any fun y=>eqs y d1)->jx K neg v1 v2 H Q:=fun{xs ds p} rs e2 hs hf hfs ed=>by
  obtain⟨e1,f1⟩:=RB.flat r1 gk hf;obtain⟨e3,f3⟩:=E4 rs gk hfs;refine .inl ⟨p,xs,e2,hs,f1,f3,q _ G H (Grow.refl gk) ?_⟩;have:Ac v1 xs=ds.any fun y=>eqs y d1:=by unfold Ac;rw[e3,Qc6,e1];rfl
  rw[this,ed];exact .scl (.bl _)
 cases d2 with
|lst ds=>
  by_cases hc:eG d1=true/\ds.all eG=true
  .simp only[inB,if_pos hc,Qck]at e;obtain⟨p,xs,e2,hs,rs⟩:=r2.lst gk;exact seq rs e2 (.inl hs) hc.1 hc.2 (J_ e).symm
  .simp only[inB,if_neg hc,Qfl]at e;cases e
|tup ds=>
  by_cases hc:eG d1=true/\ds.all eG=true
  .simp only[inB,if_pos hc,Qck]at e;obtain⟨p,xs,e2,hs,rs⟩:=r2.tup gk;exact seq rs e2 (.inr hs) hc.1 hc.2 (J_ e).symm
  .simp only[inB,if_neg hc,Qfl]at e;cases e
|dic kvs=>simp only[inB]at e;cases ek:fY d1 with
 |none=>rw[ek]at e;cases e
 |some k=>
   rw[ek]at e;cases e;obtain⟨p,ps,rfl,hs,rs⟩:=r2.dic gk;refine .inr (.inl ⟨p,d7 ps k,rfl,by rw[AK gk r1 ek];exact .inl ⟨ps,k,hs,rfl,rfl⟩,q _ G H (Grow.refl gk) ?_⟩);have:(d7 ps k).isSome=dE kvs k:=by rw[L6];cases eg:cS kvs k with
   |none=>rw[Ss rs eg];rfl
   |some d=>obtain⟨v,h1,_⟩:=F9 rs d eg;rw[h1];rfl
   rw[this];exact .scl (.bl _)
|str y=>cases d1 with
 |str z=>cases e;exact .inr (.inr ⟨z,y,r1.str gk,r2.str gk,q _ G H (Grow.refl gk) (.scl (.bl _))⟩)
 |_=>cases e
|_=>cases e
theorem Wi{K:W.Frag}:gb K (jx K false) ji:=by
 have h:=Hd (K:=K) false;have e:(fun x c=>(inB x c).map fun b=>D.bl (if false=true then ! b else b))=ji:=by funext x c;unfold ji;cases inB x c <;> rfl
 rw[e]at h;exact h
theorem Nf{K:W.Frag}:gb K (jx K true) fV:=by
 have h:=Hd (K:=K) true;have e:(fun x c=>(inB x c).map fun b=>D.bl (if true=true then ! b else b))=fV:=by funext x c;unfold fV;cases inB x c <;> rfl
 rw[e]at h;exact h
theorem oH(hu:X.A.units+1<Qbx)(ha:SB X g m a fa)(hb:SB X g m b fb)(hm:Qbt .In b=false:=by rfl):SQ X g m (.Compare a [.In] [b] pos) (bW (f2 fa fb ji)):=mw (Nl hu) Wi ha hb hm
theorem Ay(hu:X.A.units+1<Qbx)(ha:SB X g m a fa)(hb:SB X g m b fb)(hm:Qbt .NotIn b=false:=by rfl):SQ X g m (.Compare a [.NotIn] [b] pos) (bW (f2 fa fb fV)):=mw (OS hu) Nf ha hb hm
def qh:D->D->Option D
|.non,.non=>some (.bl true)
|_,.non=>some (.bl false)
|_,_=>none
def ik:D->D->Option D
|.non,.non=>some (.bl false)
|_,.non=>some (.bl true)
|_,_=>none
theorem RB.isnon{K:W.Frag}{G:GH}{H:Hp}{v:V}{d:D}(gk:cp K G H)(h:RB K G H v d):(v=.non↔d=.non):=by
 constructor
 .intro e;subst e;rcases h with h|⟨a,e,_⟩
  .cases h with
  |scl s=>cases s;rfl
  .cases e
 .intro e;subst e;exact h.non gk
theorem Wk{K:W.Frag}:gb K (fun x y H Q=>y=.non/\Q (.bl (decide (x=.non))) H) qh:=by intro G H v1 v2 d1 d2 d Q gk r1 r2 e q;have hn:=r1.isnon gk;cases d2 with
|non=>refine⟨r2.non gk,q _ G H (Grow.refl gk) ?_⟩;cases d1 with
 |non=>cases e;rw[decide_eq_true (hn.mpr rfl)];exact .scl (.bl _)
 |_=>cases e;rw[decide_eq_false (fun z=>by have:=hn.mp z;cases this)];exact .scl (.bl _)
|_=>cases d1 <;> cases e
theorem Nq{K:W.Frag}:gb K (fun x y H Q=>y=.non/\Q (.bl (! decide (x=.non))) H) ik:=by intro G H v1 v2 d1 d2 d Q gk r1 r2 e q;have hn:=r1.isnon gk;cases d2 with
|non=>refine⟨r2.non gk,q _ G H (Grow.refl gk) ?_⟩;cases d1 with
 |non=>cases e;rw[decide_eq_true (hn.mpr rfl)];exact .scl (.bl _)
 |_=>cases e;rw[decide_eq_false (fun z=>by have:=hn.mp z;cases this)];exact .scl (.bl _)
|_=>cases d1 <;> cases e
theorem oG(ha:SB X g m a fa)(hb:SB X g m b fb):SQ X g m (.Compare a [.Is] [b] pos) (bW (f2 fa fb qh)):=mw Nn Wk ha hb (lA _)
theorem qJ(ha:SB X g m a fa)(hb:SB X g m b fb):SQ X g m (.Compare a [.IsNot] [b] pos) (bW (f2 fa fb ik)):=mw Qa Nq ha hb (lA _)
end
end DL
section
namespace DL
open PySem PySem.Spec PyProof.Rows L2
variable{X:Cx}{g:GE}{m mb:List Md}{e a b o c:Expr}{f fa fb:FE}{pos pos':Pos}
section
variable{fc:FE}{p1 p2:Pos}{ro:Bool}{x:Str}
def sU:R2:=fun x y H Q=>∃a v,x=.ref a/\jI H a y (some v)/\Q v H
theorem Nt(hu:X.A.units+1<Qbx):kG X sU:=by intro value slice pz s σ H x y v u Q I rx ry h hs;obtain⟨a,w,rfl,hg,q⟩:=h;cases rx;exact tail_any (UD I hg) PySem.F.slot_dict_getitem.lookup (SH hu I hg ry fun w' s' I' U=>⟨w,H,I',U,q⟩) hs
def bY:D->D->Option D
|.dic kvs,k=>(fY k).bind (cS kvs)
|c,k=>ixD c k
theorem Nr{K:W.Frag}:gb K (fun x y H Q=>sU x y H Q\/Ew K x y H Q) bY:=by intro G H v1 v2 d1 d2 d Q gk r1 r2 e q;cases d1 with
|dic kvs=>obtain⟨a,ps,rfl,hs,rs⟩:=r1.dic gk;have e':(fY d2).bind (cS kvs)=some d:=e;cases ek:fY d2 with
 |none=>rw[ek]at e';cases e'
 |some k=>rw[ek]at e';obtain⟨v,h1,h2⟩:=F9 rs d e';refine .inl ⟨a,v,rfl,?_,q v G H (Grow.refl gk) h2⟩;rw[AK gk r2 ek,<-h1];exact .inl ⟨ps,k,hs,rfl,rfl⟩
|lst ds=>exact .inr (Aq G H v1 v2 _ d2 d Q gk r1 r2 e q)
|tup ds=>exact .inr (Aq G H v1 v2 _ d2 d Q gk r1 r2 e q)
|str ds=>exact .inr (Aq G H v1 v2 _ d2 d Q gk r1 r2 e q)
|_=>cases e
theorem hJ(hu:X.A.units+1<Qbx)(ha:SB X g m a fa)(hb:SB X g m b fb)(hs:Bn b:=by intro _ _;rfl):SE X g m (.Subscript a b pos) (f2 fa fb bY):=As Nr (VR (kG.or (Nt hu) Nu) ha hb hs)
theorem jr:SO X g m (.Dict [] [] pos) fun _=>.ok (.dic []):=PE.imp QO fun σ H Q ⟨r,G,si,q⟩ p hp=>q p G _ (Grow.new si.gok hp _) hp ⟨si.gok.isN hp,.dic cV .nil⟩
def dQ(kvs:List (bJ×D))(k:bJ)(d:D):List (bJ×D):=if (kvs.any fun kv=>decide (kv.1=k))=true then kvs.map fun kv=>if kv.1=k then(kv.1,d)else kv else kvs++[(k,d)]
theorem Ri{K:W.Frag}{G:GH}{k:bJ}{ps:List (bJ×V)}{kvs:List (bJ×D)}(h:fj K G ps kvs):(ps.any fun kv=>decide (kv.1=k))=kvs.any fun kv=>decide (kv.1=k):=by induction h with
|nil=>rfl
|cons r t ih=>rw[QbP,QbP,ih,r.1]
theorem Fu{K:W.Frag}{G:GH}{ps:List (bJ×V)}{kvs:List (bJ×D)}{k:bJ}{v:V}{d:D}(r:fj K G ps kvs)(h:RG K G v d):fj K G (dC ps k v) (dQ kvs k d):=by
 unfold dC dQ;rw[Ri r];by_cases hc:(kvs.any fun kv=>decide (kv.1=k))=true
 .rw[if_pos hc,if_pos hc];clear hc
  induction r with
 |nil=>exact .nil
 |@cons p q ps kvs r t ih=>
   refine .cons ?_ ih;obtain⟨p1,p2⟩:=p;obtain⟨q1,q2⟩:=q;have e:p1=q1:=r.1;subst e;by_cases hk:p1=k
   .simp only[hk,if_true,true_and];exact h
   .simp only[hk,if_false,true_and];exact r.2
 .rw[if_neg hc,if_neg hc];exact Paired.snoc r ⟨rfl,h⟩
def fP:D->D->D->Option D
|.lst ds,.int k,v=>(jE ds.length k).map fun j=>.lst (ds.set j v)
|.dic kvs,k,v=>(fY k).bind fun k=>if kvs.length<sizeLine then some (.dic (dQ kvs k v))else none
|_,_,_=>none
def Fx:V->V->V->Hp->(Hp->Prop)->Prop:=fun o i v H Q=>∃p H',o=.ref p/\kH H p i v H'/\Q H'
theorem Pm(hu:X.A.units+1<Qbx):ir X Fx:=by intro pz s σ H o i v ov iv u Q I ro ri rv h;obtain⟨p,H',rfl,hp,q⟩:=h;cases ro;exact SJ hu I hp ri rv fun s' I'=>⟨H',I',q⟩
theorem ir.or{t t':mh}(h:ir X t)(h':ir X t'):ir X (fun o i v H Q=>t o i v H Q\/t' o i v H Q):=by
 intro pz s σ H o i v ov iv u Q I ro ri rv q;rcases q with q|q
 .exact h pz s σ H o i v ov iv u Q I ro ri rv q
 .exact h' pz s σ H o i v ov iv u Q I ro ri rv q
theorem NC{K:W.Frag}{G:GH}{H:Hp}{a:Addr}{d k v d':D}{kv vv:V}{Q:Hp->Prop}(gk:cp K G H)(ow:Own K G H a d)(rk:RB K G H kv k)(rv:RG K G vv v)(e:fP d k v=some d')(q:∀o',OwnO K G (aY H a o') a d'->Q (aY H a o')):Fy (.ref a) kv vv H Q\/Fx (.ref a) kv vv H Q:=by cases ow.ob with
|@lst xs ds r s=>cases k with
 |int k=>have e':(jE ds.length k).map (fun j=>D.lst (ds.set j v))=some d':=e;cases ej:jE ds.length k with
  |none=>rw[ej]at e';cases e'
  |some j=>rw[ej]at e';cases e';exact .inl ⟨a,xs,k,j,rfl,rk.int gk,r,by rw[Paired.length s];exact ej,q _ (.lst cV (Paired.st rv j s))⟩
 |_=>cases e
|@dic ps kvs r s=>have e':(fY k).bind (fun k=>if kvs.length<sizeLine then some (D.dic (dQ kvs k v))else none)=some d':=e;cases ek:fY k with
 |none=>rw[ek]at e';cases e'
 |some k'=>
   rw[ek]at e';have e2:(if kvs.length<sizeLine then some (D.dic (dQ kvs k' v))else none)=some d':=e';by_cases hl:kvs.length<sizeLine
   .rw[if_pos hl]at e2;cases e2;have:=Paired.length s;refine .inr ⟨a,_,rfl,?_,q _ (.dic cV (Fu s rv))⟩;rw[AK gk rk ek];exact kH.k r (by omega)
   .rw[if_neg hl]at e2;cases e2
def putF(m:List Md)(i:Nat)(fk fv:FE):FS:=fun r=>iU m r (fv r) fun v=>match r[i]? with
|some (some d)=>iU m r (fk r) fun k=>(match fP d k v with
 |some d'=>.nx (r.set i (some d'))
 |none=>.stuck)
|_=>.stuck
theorem j7(i:Nat)(hu:X.A.units+1<Qbx)(hm:m[i]? = some .ow)(hN:X.N[i]? = some x)(hv:iY X.env.scope x)(hk:SB X g m b fb)(he:SE X g m e f)(hd:(x==("__debug__" : Str))=false:=by decide)(Y:(x==("__classdict__" : Str))=false:=by decide)(ha:∀v,Qdc (.Subscript (.Name x p1) b p2) X.env v=(do
   let ov <-Qcz [v] (eval (.Name x p1) X.env);let iv <-Qcz [v,ov] (eval b X.env)
   QdJ p2
   Qcz [v,ov,iv] (setItem ov iv v)
   release [v,ov,iv] []):=by intro _;rfl)(hs:swapsWithSole [.Subscript (.Name x p1) b p2] e pos.line X.env=pure false:=by rfl)(hw:swappedStores [.Subscript (.Name x p1) b p2] e X.env=pure none:=by rfl)(h1:(Qa0 [.Subscript (.Name x p1) b p2] X.env).map (·.2)=[Qdc (.Subscript (.Name x p1) b p2) X.env]:=by rfl):SS X g ro mb m (.Assign [.Subscript (.Name x p1) b p2] e pos) (putF m i fb f) m:=by refine⟨rfl,PS.imp (M0 he (MU (jR hN hv hd Y) hk (ir.or RZ (Pm hu)) ha) hs hw h1) fun D0 σ H ⟨r,G,si,k⟩=>⟨r,G,si,?_⟩⟩;refine cJ (gP si rfl k) fun v k1 vv G1 H1 w1 rv=>?_;cases er:r[i]? with
|none=>simp only[er]at k1;exact(show False from k1).elim
|some oo=>cases oo with
 |none=>simp only[er]at k1;exact(show False from k1).elim
 |some d=>simp only[er]at k1;obtain⟨a,h1,h2,h3⟩:=(si.grow w1).mut hm er;refine⟨_,h1,r,G1,si.grow w1,?_⟩;refine cJ (gP (m:=m) (si.grow w1) rfl (c9.gle k1 w1.ge)) fun kk k2 kv G2 H2 w2 rk=>?_;cases es:fP d kk v with
  |none=>simp only[es]at k2;exact(show False from k2).elim
  |some d'=>simp only[es]at k2;obtain⟨a',U,Z,h3'⟩:=((si.grow w1).grow w2).mut hm er;rw[h1]at U;cases U;exact NC w2.ok Z rk (rv.mono w2.ge) es fun o' ob=>k2 σ G2 _ w2.ge (h3' o' d' ob)
end
mutual
def cu:D->PyData
|.non=>.none
|.bl b=>.bool b
|.int i=>.int i
|.str x=>.str x
|.tup ds=>.tuple (zcM ds)
|.lst ds=>.list (zcM ds)
|.dic _=>.none
|.obj _ _=>.none
def zcM:List D->List PyData
|[]=>[]
|d::ds=>cu d::zcM ds
end
def dk:Nat->D->Prop
|_,.non=>True
|_,.bl _=>True
|_,.int _=>True
|_,.str x=>PyData.strOk x=true
|0,.tup _=>False
|0,.lst _=>False
|k+1,.tup ds=>∀d∈ds,dk k d
|k+1,.lst ds=>∀d∈ds,dk k d
|_,.dic _=>False
|_,.obj _ _=>False
theorem vG{k:Nat}{ds:List D}:dk (k+1) (.lst ds)↔∀d∈ds,dk k d:=by simp only[dk]
theorem lG{k:Nat}{ds:List D}:dk (k+1) (.tup ds)↔∀d∈ds,dk k d:=by simp only[dk]
def lf(a b:D):Bool:=Qbe (cu a) (cu b)
section
variable{pz:List (Addr×Obj)}{σ:L2.St}{H:Hp}{s:c_}{G:GH}
theorem IZ{k:Nat}(ih:∀(d:D)(v:V)(u:a_),dk k d->RG X.K G v d->L2.bH v u->∃as,Reads s.heap u (cu d) as)(ds:List D)(vs:List V)(us:List a_)(h:∀d∈ds,dk k d)(r:dB X.K G vs ds)(q:aP vs us):∃as,ReadsAll s.heap us (zcM ds) as:=by induction r generalizing us with
|nil=>cases q;exact⟨[],.nil⟩
|cons r t ih'=>cases q with
 |cons r' t'=>obtain⟨a1,h1⟩:=ih _ _ _ (h _ j_) r r';obtain⟨a2,h2⟩:=ih' _ (fun x hx=>h x (k_ _ hx)) t';exact⟨a1++a2,.cons h1 h2⟩
theorem wC(I:Inv X pz σ H s)(gk:cp X.K G H):∀(k:Nat)(d:D)(v:V)(u:a_),dk k d->RB X.K G H v d->L2.bH v u->∃as,Reads s.heap u (cu d) as:=by
 intro k
 induction k with
|zero=>intro d v u hs r ru;cases d with
 |non=>rw[r.non gk]at ru;cases ru;exact⟨_,.none⟩
 |bl b=>rw[r.bl gk]at ru;cases ru;exact⟨_,.bool b⟩
 |int i=>rw[r.int gk]at ru;obtain⟨t,rfl⟩:=ru;exact⟨_,.int i t⟩
 |str x=>rw[r.str gk]at ru;obtain⟨t,rfl⟩:=ru;exact⟨_,.str x t⟩
 |tup _=>unfold dk at hs;exact hs.elim
 |lst _=>unfold dk at hs;exact hs.elim
 |dic _=>unfold dk at hs;exact hs.elim
 |obj _ _=>unfold dk at hs;exact hs.elim
|succ k ih=>intro d v u hs r ru;cases d with
 |non=>rw[r.non gk]at ru;cases ru;exact⟨_,.none⟩
 |bl b=>rw[r.bl gk]at ru;cases ru;exact⟨_,.bool b⟩
 |int i=>rw[r.int gk]at ru;obtain⟨t,rfl⟩:=ru;exact⟨_,.int i t⟩
 |str x=>rw[r.str gk]at ru;obtain⟨t,rfl⟩:=ru;exact⟨_,.str x t⟩
 |tup ds=>obtain⟨a,xs,rfl,sq,rs⟩:=r.tup gk;cases ru;obtain⟨its,rv,pl,_⟩:=I.tuple sq;obtain⟨o,ho,hc,n,hd⟩:=pl;obtain⟨as,h⟩:=IZ (k:=k) (fun d v u h1 h2 h3=>ih d v u h1 h2.rb h3) ds xs its (lG.mp hs) rs rv;refine⟨as,?_⟩;unfold cu;exact .tuple ho hc hd (by simpa using h)
 |lst ds=>obtain⟨a,xs,rfl,sq,rs⟩:=r.lst gk;cases ru;obtain⟨its,rv,pl,_⟩:=I.list sq;obtain⟨o,ho,hc,n,hd⟩:=pl.isList;obtain⟨as,h⟩:=IZ (k:=k) (fun d v u h1 h2 h3=>ih d v u h1 h2.rb h3) ds xs its (vG.mp hs) rs rv;refine⟨a::as,?_⟩;unfold cu;exact .list ho hc hd (by simpa using h)
 |dic _=>unfold dk at hs;exact hs.elim
 |obj _ _=>unfold dk at hs;exact hs.elim
theorem BC{k:Nat}(ih:∀d,dk k d->QaA (cu d)=true/\QaU (cu d)<=k):∀ds:List D,(∀d∈ds,dk k d)->Qdr (zcM ds)=true/\Qd1 (zcM ds)<=k
|[],_=>by unfold zcM Qdr Qd1;exact⟨rfl,Qaf _⟩
|d::ds,h=>by obtain⟨a1,a2⟩:=ih d (h d j_);obtain⟨b1,b2⟩:=BC ih ds fun x hx=>h x (k_ _ hx);unfold zcM Qdr Qd1;rw[a1,b1];exact⟨rfl,Nat.max_le.mpr ⟨a2,b2⟩⟩
theorem Og:∀(k:Nat)(d:D),dk k d->QaA (cu d)=true/\QaU (cu d)<=k:=by
 intro k
 induction k with
|zero=>intro d hs;cases d with
 |non=>unfold cu QaA QaU;exact⟨rfl,Qaf _⟩
 |bl b=>unfold cu QaA QaU;exact⟨rfl,Qaf _⟩
 |int i=>unfold cu QaA QaU;exact⟨rfl,Qaf _⟩
 |str x=>unfold dk at hs;unfold cu QaA QaU;exact⟨hs,Qaf _⟩
 |tup _=>unfold dk at hs;exact hs.elim
 |lst _=>unfold dk at hs;exact hs.elim
 |dic _=>unfold dk at hs;exact hs.elim
 |obj _ _=>unfold dk at hs;exact hs.elim
|succ k ih=>intro d hs;cases d with
 |non=>unfold cu QaA QaU;exact⟨rfl,Qaf _⟩
 |bl b=>unfold cu QaA QaU;exact⟨rfl,Qaf _⟩
 |int i=>unfold cu QaA QaU;exact⟨rfl,Qaf _⟩
 |str x=>unfold dk at hs;unfold cu QaA QaU;exact⟨hs,Qaf _⟩
 |tup ds=>obtain⟨b1,b2⟩:=BC ih ds (lG.mp hs);unfold cu QaA QaU;exact⟨b1,Qe4 b2⟩
 |lst ds=>obtain⟨b1,b2⟩:=BC ih ds (vG.mp hs);unfold cu QaA QaU;exact⟨b1,Qe4 b2⟩
 |dic _=>unfold dk at hs;exact hs.elim
 |obj _ _=>unfold dk at hs;exact hs.elim
theorem wJ{d:D}(h:dk 60 d):Qf6 (cu d)=true:=by obtain⟨a,b⟩:=Og 60 d h;unfold Qf6;rw[a,decide_eq_true (L_ b (by decide))];rfl
end
section
variable{fc:FE}
def pr(a b:D):Bool:=eG a&&eG b&&lW (gR a) (gR b)
open Classical in
def gZ(a b:D):Option Bool:=if pr a b=true then some (eqs a b)else if dk 60 a/\dk 60 b then some (lf a b)else none
def eqD(a b:D):Option D:=(gZ a b).map .bl
def neD(a b:D):Option D:=(gZ a b).map fun c=>.bl (! c)
theorem rH{a b:D}(h:pr a b=false)(h1:dk 60 a)(h2:dk 60 b):gZ a b=some (lf a b):=by unfold gZ;rw[if_neg (by rw[h];exact d_),if_pos ⟨h1,h2⟩]
theorem IF{a b:D}(h:pr a b=true):gZ a b=some (eqs a b):=by unfold gZ;rw[if_pos h]
@[simp] theorem eqB_int(a b:Int):gZ (.int a) (.int b)=some (a==b):=IF rfl
@[simp] theorem eqB_non_int(b:Int):gZ .non (.int b)=some false:=IF rfl
theorem Iv{a b:D}(h:lW (gR a) (gR b)=true)(fa:eG a=true)(fb:eG b=true):decide (gR a=gR b)=eqs a b:=by
 cases a <;> cases b <;> first
  |exact absurd (show false=true from fa) d_
  |exact absurd (show false=true from fb) d_
  |exact absurd (show false=true from h) d_
  |exact Bq
  |exact AQ
  |exact Br
  |rfl
  |simp[gR,eqs,il]
def vB(K:W.Frag)(neg:Bool):R2:=fun x y H Q=>∃(G:GH)(d1 d2:D),cp K G H/\RB K G H x d1/\RB K G H y d2/\dk 60 d1/\dk 60 d2/\Q (.bl (if neg then ! lf d1 d2 else lf d1 d2)) H
theorem IX(hu:X.A.units+64<Qbx):cM X (Qak .Eq) (vB X.K false):=by intro pz s σ H x y v u Q I rx ry h;obtain⟨G,d1,d2,gk,r1,r2,s1,s2,q⟩:=h;obtain⟨as,h1⟩:=wC I gk 60 d1 x v s1 r1 rx;obtain⟨bs,h2⟩:=wC I gk 60 d2 y u s2 r2 ry;exact SeqAt.compareEq_shaped h1 h2 (wJ s1) (wJ s2) hu ⟨.bl _,H,I,rfl,q⟩
theorem Ta(hu:X.A.units+64<Qbx):cM X (Qak .NotEq) (vB X.K true):=by intro pz s σ H x y v u Q I rx ry h;obtain⟨G,d1,d2,gk,r1,r2,s1,s2,q⟩:=h;obtain⟨as,h1⟩:=wC I gk 60 d1 x v s1 r1 rx;obtain⟨bs,h2⟩:=wC I gk 60 d2 y u s2 r2 ry;exact SeqAt.compareNe_shaped h1 h2 (wJ s1) (wJ s2) hu ⟨.bl _,H,I,rfl,q⟩
theorem eq_cases{a b:D}{c:Bool}(h:gZ a b=some c):(pr a b=true/\c=eqs a b)\/(dk 60 a/\dk 60 b/\c=lf a b):=by
 unfold gZ at h;split at h
 .rename_i hs;cases h;exact .inl ⟨hs,rfl⟩
 .split at h
  .rename_i hs;cases h;exact .inr ⟨hs.1,hs.2,rfl⟩
  .cases h
theorem EX{K:W.Frag}:gb K (fun x y H Q=>LI x y H Q\/vB K false x y H Q) eqD:=by intro G H v1 v2 d1 d2 d Q gk r1 r2 e q;unfold eqD at e;cases ec:gZ d1 d2 with
|none=>rw[ec]at e;cases e
|some c=>
  rw[ec]at e;cases e;rcases eq_cases ec with⟨hs,rfl⟩|⟨s1,s2,rfl⟩
  .unfold pr at hs;rw[M_,M_]at hs;obtain⟨e1,_⟩:=RB.flat r1 gk hs.1.1;obtain⟨e2,_⟩:=RB.flat r2 gk hs.1.2;refine .inl ⟨by rw[e1,e2];exact hs.2,?_⟩;rw[e1,e2,Iv hs.2 hs.1.1 hs.1.2];exact q _ G H (Grow.refl gk) (.scl (.bl _))
  .exact .inr ⟨G,d1,d2,gk,r1,r2,s1,s2,q _ G H (Grow.refl gk) (.scl (.bl _))⟩
theorem Ws{K:W.Frag}:gb K (fun x y H Q=>LH x y H Q\/vB K true x y H Q) neD:=by intro G H v1 v2 d1 d2 d Q gk r1 r2 e q;unfold neD at e;cases ec:gZ d1 d2 with
|none=>rw[ec]at e;cases e
|some c=>
  rw[ec]at e;cases e;rcases eq_cases ec with⟨hs,rfl⟩|⟨s1,s2,rfl⟩
  .unfold pr at hs;rw[M_,M_]at hs;obtain⟨e1,_⟩:=RB.flat r1 gk hs.1.1;obtain⟨e2,_⟩:=RB.flat r2 gk hs.1.2;refine .inl ⟨by rw[e1,e2];exact hs.2,?_⟩;rw[e1,e2,Iv hs.2 hs.1.1 hs.1.2];exact q _ G H (Grow.refl gk) (.scl (.bl _))
  .exact .inr ⟨G,d1,d2,gk,r1,r2,s1,s2,q _ G H (Grow.refl gk) (.scl (.bl _))⟩
theorem gT(hu:X.A.units+64<Qbx)(ha:SB X g m a fa)(hb:SB X g m b fb):SE X g m (.Compare a [.Eq] [b] pos) (f2 fa fb eqD):=AB (cM.or Fi (IX hu)) EX ha hb (lA _)
theorem jz(hu:X.A.units+64<Qbx)(ha:SB X g m a fa)(hb:SB X g m b fb):SQ X g m (.Compare a [.Eq] [b] pos) (bW (f2 fa fb eqD)):=mw (cM.or Fi (IX hu)) EX ha hb (lA _)
theorem dP(hu:X.A.units+64<Qbx)(ha:SB X g m a fa)(hb:SB X g m b fb):SQ X g m (.Compare a [.NotEq] [b] pos) (bW (f2 fa fb neD)):=mw (cM.or VO (Ta hu)) Ws ha hb (lA _)
def qW(fa fb fc:FE)(k k':D->D->Option D):FE:=fun r=>(fa r).bind fun x=>(fb r).bind fun y=>(fA (k x y)).bind fun z=>(fA (qi z)).bind fun c=>if c=true then(fc r).bind fun w=>fA (k' y w)else .ok (.bl false)
def Az(K:W.Frag):R2:=fun x y H Q=>∃l b xs zs,x=.ref l/\y=.ref b/\cX K H l xs/\cX K H b zs/\xs.length+zs.length<=sizeLine/\∀p,H p=none->Q (.ref p) (aY H p (.lst (xs++zs)))
theorem Hy:cM X (Qbc .Add) (Az X.K):=by
 intro pz s σ H x y v u Q I rx ry h;obtain⟨l,b,xs,zs,rfl,rfl,hH,hB,hz,q⟩:=h;cases rx;cases ry;obtain⟨its,r,pl,_⟩:=I.list hH;obtain⟨U,r2,BT,_⟩:=I.list hB;have l1:=r.length;have l2:=r2.length;obtain⟨⟨cls,dd,data,sl⟩,ho,hc,n,hd⟩:=pl.isList;obtain⟨⟨IO,Z,Id,Cl⟩,ho2,Y,n2,hd2⟩:=BT.isList;simp only at hc hd Y hd2;subst hc hd Y hd2;have e:its.toArray++U.toArray=(its++U).toArray:=by simp
 refine QdM ⟨_,ho,rfl⟩ ⟨_,ho2,rfl⟩ noFill_list_add seq_list_add PySem.F.slot_list_add PySem.F.entry_list_add (PySem.F.args_list_add_2 _ _) (list_addW _ _ its.toArray U.toArray n n2 dd Z sl Cl (by simp;omega)) ⟨ho,ho2,?_⟩;rw[e];exact⟨.ref _,_,I.lnew (t':=s.toks) (r.append r2) (by rw[Y_];omega),rfl,q _ I.fresh⟩
def addA:D->D->Option D
|.int a,.int b=>some (.int (a+b))
|.str a,.str b=>if a.length+b.length<=sizeLine then some (.str (a++b))else none
|.lst a,.lst b=>if a.length+b.length<=sizeLine then some (.lst (a++b))else none
|.tup (x::a),.tup b=>if (x::a).length+b.length<=sizeLine then some (.tup (x::a++b))else none
|_,_=>none
theorem GC{K:W.Frag}:gb K (fun x y H Q=>(∃i j,x=.int i/\y=.int j/\Q (.int (i+j)) H)\/(∃i j,x=.str i/\y=.str j/\i.length+j.length<=sizeLine/\Q (.str (i++j)) H)\/Az K x y H Q\/AA K x y H Q) addA:=by
 intro G H v1 v2 d1 d2 d Q gk r1 r2 e q;unfold addA at e;split at e
 .cases e;exact .inl ⟨_,_,r1.int gk,r2.int gk,q _ G H (Grow.refl gk) (.scl (.int _))⟩
 .split at e
  .rename_i hl;cases e;exact .inr (.inl ⟨_,_,r1.str gk,r2.str gk,hl,q _ G H (Grow.refl gk) (.scl (.str _))⟩)
  .cases e
 .split at e
  .rename_i hl;cases e;obtain⟨a,xs,rfl,s1,t1⟩:=r1.lst gk;obtain⟨b,ys,rfl,s2,t2⟩:=r2.lst gk;have l1:=Paired.length t1;have l2:=Paired.length t2;exact .inr (.inr (.inl ⟨a,b,xs,ys,rfl,rfl,s1,s2,by omega,fun p hp=>q _ _ _ (Grow.newF gk hp (.lst (.inl cV) (Paired.app t1 t2))) (.ref gr)⟩))
  .cases e
 .split at e
  .rename_i x0 a0 b0 hl;cases e;rcases r1 with r1|⟨a',_,oo⟩
   .obtain⟨a,xs,rfl,s1,t1⟩:=r1.tup gk;obtain⟨b,ys,rfl,s2,t2⟩:=r2.tup gk;have l1:=Paired.length t1;have l2:=Paired.length t2;refine .inr (.inr (.inr ⟨a,b,xs,ys,rfl,rfl,s1,s2,?_,by omega,fun hy=>?_,fun _ p hp=>q _ _ _ (Grow.newF gk hp (.tup (.inl cV) (Paired.app t1 t2))) (.ref gr)⟩))
    .rintro rfl
     cases t1
    .subst hy;cases t2;refine q _ G H (Grow.refl gk) ?_;rw[W_];exact r1
   .cases oo.ob
  .cases e
 .cases e
theorem jb(ha:SB X g m a fa)(hb:SB X g m b fb):SE X g m (.BinOp a .Add b pos) (f2 fa fb addA):=lq (cM.or Gm (cM.or JY (cM.or Hy Hz))) GC ha hb
end
end DL
end
namespace DL
open PySem PySem.Spec PyProof.Rows L2
structure DefAt(K:W.Frag)(mg:Str->Option a_)(x:Str)(st:Stmt):Prop where
 ex:∃f fd,mg x=some (.ref f)/\Fun K x x st f fd
structure Callee(P:H_)(w:Z_)(K:W.Frag)(mg:Str->Option a_)(base:Heap)(x:Str)(ps:List Str)(ds:List a_)(k:Nat)(ro:Bool)(ms:List Md)(F:List D->Res D):Prop where
 ex:∃f fd,mg x=some (.ref f)/\W.keepIn K (.ref f)=true/\g5 K fd ps ds/\FnOk P w K mg base dm k f fd ps (ki K ro ms F)
variable{w:Z_}{K:W.Frag}
section
variable{P:H_}{mg:Str->Option a_}{base:Heap}
theorem AM{x:Str}{st:Stmt}{N ps:List Str}{k:Nat}{ro:Bool}{ms:List Md}{fs:FS}{m':List Md}(A:DefAt K mg x st)(S:FnScope N ps (aF st))(hms:ms.length=ps.length)(hb:∀(kV doc pm:a_)(an:Option Addr)(cdv ct:a_)(us:List a_),us.length=ps.length->QbN (W.fnOf x x (aU st) (aN st) (aF st) .none kV doc pm an cdv ct) ⟨us,[]⟩=pure (ps.zip us))(U:∀(f:Addr)(cdv:a_)(A:Qag)(outer:List Env)(s:c_)(H:Hp)(g:GE)(E:XK),Room k (A.deeper (QbJ x (aF st) s.heap.objs.size f cdv)) ->fF (cw dm P w K mg base N x (aF st) f cdv A outer s H E).nox g ro [] (hX N.length ms) (aN st) fs m'):Callee P w K mg base x ps [] (k+1) ro ms fun ds=>aT ro (fs (bL N.length ds)):=by obtain⟨f,fd,h1,F⟩:=A.ex;exact⟨f,fd,h1,F.kp,F.binds hb,AN F S hms (U f)⟩
structure DefAtD(K:W.Frag)(mg:Str->Option a_)(x:Str)(st:Stmt)(dds:List a_):Prop where
 ex:∃(f T:Addr)(o:Obj)(n:Nat)(oc:a_)(od:Option Addr)(kV doc pm:a_)(an:Option Addr)(cdv ct:a_)(osl:Array (Option a_)),mg x=some (.ref f)/\K.lookup T=some o/\o.data=.seq dds.toArray n/\K.lookup f=some ⟨oc,od,.func (W.fnOf x x (aU st) (aN st) (aF st) (.ref T) kV doc pm an cdv ct),osl⟩/\W.codeIn K cdv x=true/\W.keepIn K (.ref f)=true
theorem pH{x:Str}{st:Stmt}{N ps:List Str}{k:Nat}{ro:Bool}{ms:List Md}{fs:FS}{m':List Md}{dds ds:List a_}(A:DefAtD K mg x st dds)(S:FnScope N ps (aF st))(hms:ms.length=ps.length)(nn:Nat)(hn:nn+ds.length=ps.length)(hb:∀(T:Addr)(kV doc pm:a_)(an:Option Addr)(cdv ct:a_)(us:List a_),us.length=nn->∃kk:Option (Array a_)->Sem (List (Str×a_)),QbN (W.fnOf x x (aU st) (aN st) (aF st) (.ref T) kV doc pm an cdv ct) ⟨us,[]⟩=Qei (.ref T) >>= kk/\kk (some dds.toArray)=pure (ps.zip (us++ds)))(U:∀(f:Addr)(cdv:a_)(A:Qag)(outer:List Env)(s:c_)(H:Hp)(g:GE)(E:XK),Room k (A.deeper (QbJ x (aF st) s.heap.objs.size f cdv)) ->fF (cw dm P w K mg base N x (aF st) f cdv A outer s H E).nox g ro [] (hX N.length ms) (aN st) fs m'):Callee P w K mg base x ps ds (k+1) ro ms fun zs=>aT ro (fs (bL N.length zs)):=by
 obtain⟨f,T,o,n,oc,od,kV,doc,pm,an,cdv,ct,osl,h1,hT,hd,lk,Y,kp⟩:=A.ex;refine⟨f,W.fnOf x x (aU st) (aN st) (aF st) (.ref T) kV doc pm an cdv ct,h1,kp,fun s us KX hl=>?_,?_⟩
 .obtain⟨kk,e1,e2⟩:=hb T kV doc pm an cdv ct us (by rw[Y_]at hl;omega);exact Qc3 rfl (KX _ _ hT) hd e1 e2
 .have hpl:ps.length<=N.length:=by have:=congrArg Qb0 S.pre;rw[QaO]at this;omega
  refine qw lk Y S (fun vs H Q E ⟨G,ds,gk,rs,q⟩=>rs.len.1.trans hms) fun A outer s H vs Q E hr ⟨G,ds,gk,rs,q⟩=>?_;exact⟨_,(U f cdv A outer s H ⟨G,H,fun _=>none⟩ E hr).2.nox,bL N.length ds,G,rC gk rs (by omega),IB q⟩
end
variable{X:Cx}{g:GE}{m:List Md}{e:Expr}{es:List Expr}{fl:aQ->Res (List D)}{p pos:Pos}
section
variable{k:Nat}{ps:List Str}{F:List D->Res D}{dvs:List V}{ds:List a_}{dds:List D}{x:Str}{i:Nat}{ms ms':List Md}
theorem qU(c:Callee X.prog X.w X.K X.mg X.base x ps ds k false ms' F)(hr:Room k X.A)(ha:iZ X g m (e::es) ms fl)(hms:ms'=ms++p_ dds.length .sh:=by rfl)(hg:Gl X x:=by rfl)(hd:aP dvs ds:=by exact .nil)(hsc:Paired Scl dvs dds:=by exact .nil)(U:(x==("__debug__" : Str))=false:=by decide)(he:h_ (e::es) X.env=(false,eval e X.env)::h_ es X.env:=by rfl)(hpl:(backTo pos (h_ es X.env)).any (·.1)=false:=by rfl):SE X g m (.Call (.Name x p) (e::es) [] pos) (bI fl dds F):=by subst hms;obtain⟨f,fd,h1,h2,h3,h4⟩:=c.ex;exact N6 h4 hr hg h1 h2 h3 hd hsc ha U he hpl
theorem OX(c:Callee X.prog X.w X.K X.mg X.base x ps ds k true ms' F)(hr:Room k X.A)(ha:iZ X g m (e::es) ms fl)(hms:ms'=ms++p_ dds.length .sh:=by rfl)(hg:Gl X x:=by rfl)(hd:aP dvs ds:=by exact .nil)(hsc:Paired Scl dvs dds:=by exact .nil)(U:(x==("__debug__" : Str))=false:=by decide)(he:h_ (e::es) X.env=(false,eval e X.env)::h_ es X.env:=by rfl)(hpl:(backTo pos (h_ es X.env)).any (·.1)=false:=by rfl):SO X g m (.Call (.Name x p) (e::es) [] pos) (kB (bI fl dds F)):=by subst hms;obtain⟨f,fd,h1,h2,h3,h4⟩:=c.ex;exact Ng h4 hr hg h1 h2 h3 hd hsc ha U he hpl
theorem v_(i:Nat)(hm:m[i]? = some .sh:=by rfl)(hN:X.N[i]? = some x:=by rfl)(hv:iY X.env.scope x:=by first|exact Or.inl rfl|exact Or.inr (Or.inl rfl)|exact Or.inr (Or.inr rfl))(hd:(x==("__debug__" : Str))=false:=by decide)(U:(x==("__classdict__" : Str))=false:=by decide):SE X g m (.Name x p) fun r=>fZ r i:=V3 i hm hN hv hd U
theorem aJ(i:Nat)(hm:i<m.length:=by decide)(hN:X.N[i]? = some x:=by rfl)(hv:iY X.env.scope x:=by first|exact Or.inl rfl|exact Or.inr (Or.inl rfl)|exact Or.inr (Or.inr rfl))(hd:(x==("__debug__" : Str))=false:=by decide)(U:(x==("__classdict__" : Str))=false:=by decide):SB X g m (.Name x p) fun r=>fZ r i:=Oe i hm hN hv hd U
end
def GK(osc:Qct)(ON:List Str)(sc:Qct)(N':List Str)(nl:Nat)(cap:List Nat):Bool:=decide (sc.kind=.function)&&sc.names.all (fun y=>decide (y.2≠.cell))&&sc.names.all (fun y=>decide (y.2≠.local) || decide (sc.names.lookup y.1=some .local)) &&
 sc.names.all (fun y=>decide (y.2≠.free) || (decide (osc.names.lookup y.1=some .cell) || decide (osc.names.lookup y.1=some .free)))&&decide (N'.length=nl+cap.length) &&
 (e_ cap.length).all fun j=>match N'[nl+j]?,ON[cap.getD j 0]? with
 |some x,some y=>decide (x=y)&&decide (sc.names.lookup x=some .free)
 |_,_=>false
theorem hZ{X:Cx}{osc:Qct}{ON:List Str}{sc:Qct}{N':List Str}{nl:Nat}{cap:List Nat}(h1:X.env.scope=osc)(h2:X.N=ON)(h:GK osc ON sc N' nl cap=true):CompSc X sc N' nl cap:=by subst h1 h2;unfold GK at h;simp only[M_,Qbb,decide_eq_true_eq,Qfm]at h;obtain⟨⟨⟨⟨⟨a1,a2⟩,a3⟩,a4⟩,a5⟩,a6⟩:=h;refine⟨a1,a2,fun y hy hl=>(a3 y hy).resolve_left fun z=>z hl,fun y hy hf=>(a4 y hy).resolve_left fun z=>z hf,a5,fun j hj=>?_⟩;have h6:=a6 j (z_.mpr hj);cases e1:N'[nl+j]? with
|none=>rw[e1]at h6;cases h6
|some x=>cases e2:X.N[cap.getD j 0]? with
 |none=>rw[e1,e2]at h6;cases h6
 |some y=>rw[e1,e2]at h6;simp only[M_,decide_eq_true_eq]at h6;exact⟨x,rfl,by rw[h6.1],h6.2⟩
variable{mb:List Md}{a b:Expr}{f fa fb:FE}{pos':Pos}
section
variable{c:Expr}{fc:FE}
theorem T0{R R':R2}{k k':D->D->Option D}(ho:gb X.K R k)(ho':gb X.K R' k'){σ:L2.St}{H:Hp}{Q:VK}(h:tE X g m (qW fa fb fc k k') σ H Q):F4 R R' (tB X g m fa) (tB X g m fb) (tB X g m fc) σ H Q:=by obtain⟨r,G,si,q⟩:=h;refine ou si q fun d1 d2 v1 v2 G2 H2 w r1 r2 q2=>?_;obtain⟨z,ez,q3⟩:=dU (cN q2);obtain⟨cc,ec,q4⟩:=dU (cN q3);refine ho G2 H2 v1 v2 d1 d2 z _ w.ok r1 r2 ez fun v G3 H3 w3 rv=>?_;cases z with
|bl b'=>cases ec;refine⟨_,rv.bl w3.ok,?_⟩;cases cc with
 |false=>rw[if_neg d_]at q4 ⊢;exact q4 _ G3 H3 (w.trans w3) (.scl (.bl _))
 |true=>rw[if_pos rfl]at q4 ⊢;refine⟨r,G3,(si.grow w).grow w3,iN (cN q4) (w.trans w3) fun d3 q5 v3 G4 H4 w4 r3=>?_⟩;obtain⟨d,e,q6⟩:=dU q5;exact ho' G4 H4 v2 v3 d2 d3 d Q w4.ok ((r2.mono w3).mono w4) r3 e fun v G' H' w' z=>q6 v G' H' (((w.trans w3).trans w4).trans w') z
|_=>cases ec
theorem RS{op U:CmpOp}{R R':R2}{k k':D->D->Option D}(hr:cM X (Qak op) R)(Y:cM X (Qak U) R')(ho:gb X.K R k)(ho':gb X.K R' k')(ha:SB X g m a fa)(hb:SB X g m b fb)(hc:SB X g m c fc)(hm:lastMarks [op,U] [b,c]=false:=by with_unfolding_all rfl):SE X g m (.Compare a [op,U] [b,c] pos) (qW fa fb fc k k'):=PE.imp (QN hr Y ha hb hc hm) fun σ H Q h=>T0 ho ho' h
theorem VJ{K:W.Frag}:gb K (la fun i j=>V.bl (decide (i<j))) jh:=nM fun _ _=>.bl _
theorem VI{K:W.Frag}:gb K (la fun i j=>V.bl (decide (i<=j))) EC:=nM fun _ _=>.bl _
end
theorem VC{K:W.Frag}{h:Heap}{mg:Str->Option a_}{x:Str}{st:Stmt}(KX:K.In h)(G:h.Ns N_ mg){f:Addr}{oc:a_}{od an:Option Addr}{osl:Array (Option a_)}{kV doc pm cdv ct:a_}(a:W.nsIn K N_ x=some (some (.ref f)))(l:K.lookup f=some ⟨oc,od,.func (W.fnOf x x (aU st) (aN st) (aF st) .none kV doc pm an cdv ct),osl⟩)(c:W.codeIn K cdv x=true)(k:W.keepIn K (.ref f)=true):DefAt K mg x st:=⟨f,_,W.mg_of KX G a,db l c k⟩
theorem nk{K:W.Frag}{h:Heap}{mg:Str->Option a_}{x:Str}{st:Stmt}{dds:List a_}(KX:K.In h)(G:h.Ns N_ mg){f T:Addr}{oc tc:a_}{od an td:Option Addr}{osl U:Array (Option a_)}{n:Nat}{kV doc pm cdv ct:a_}(a:W.nsIn K N_ x=some (some (.ref f)))(l:K.lookup f=some ⟨oc,od,.func (W.fnOf x x (aU st) (aN st) (aF st) (.ref T) kV doc pm an cdv ct),osl⟩)(t:K.lookup T=some ⟨tc,td,.seq dds.toArray n,U⟩)(c:W.codeIn K cdv x=true)(k:W.keepIn K (.ref f)=true):DefAtD K mg x st dds:=⟨f,T,_,n,oc,od,kV,doc,pm,an,cdv,ct,osl,W.mg_of KX G a,t,rfl,l,c,k⟩
theorem Wu{P:H_}{w:Z_}{K:W.Frag}{mg:Str->Option a_}{x p:Str}{st:Stmt}{k:Nat}{F:List D->Res D}{fa:Addr}(U:mg x=some (.ref fa))(A:DefAt K mg x st)(hb:∀(kV doc pm:a_)(an:Option Addr)(cdv ct:a_)(us:List a_),us.length=[p].length->QbN (W.fnOf x x (aU st) (aN st) (aF st) .none kV doc pm an cdv ct) ⟨us,[]⟩=pure ([p].zip us))(C:∀(f:Addr)(fd:QaE),Fun K x x st f fd->∀base:Heap,FnOk P w K mg base dm k f fd [p] (ki K false [.sh] F)):∃fd:QaE,(∀(s:c_)(u:a_),QeM s fd ⟨[u],[]⟩ [(p,u)])/\∀base:Heap,K.In base->base.Ns N_ mg->FnOk P w K mg base dm k fa fd [p] (ki K false [.sh] F):=by obtain⟨f,fd,h1,Fn⟩:=A.ex;rw[U]at h1;cases h1;refine⟨fd,fun s u=>?_,fun base _ _=>C fa fd Fn base⟩;obtain⟨oc,od,kV,doc,pm,an,cdv,ct,osl,rfl,lk,Y⟩:=Fn.ex;exact .of_eq (hb kV doc pm an cdv ct [u] rfl)
theorem VB{l:W.OpenLaw}{k:Nat}{q:H_}{Y:List Str}{XP:(Str->Option a_)->Heap->Prop}{YP:Z_->Heap->Prop}{d:DefRec}{K:Params->W.Frag}{x:Str}{F:List D->Res D}(hn:l.most=some 63)(Z:d.params.defaults=[])(hr:Room k QdR)(hY:∀(w:Z_)(h:Heap),YP w h->(K w.params).In h)(hF:∀ns:List Int,ns.length<=63->F [.lst (ns.map .int)]=.ok (.bl true))(C:∀(w:Z_)(mg:Str->Option a_)(fa:Addr)(h:Heap),(K w.params).In h->h.Ns N_ mg->mg d.name=some (.ref fa) ->∃fd:QaE,(∀(s:c_)(u:a_),QeM s fd ⟨[u],[]⟩ [(x,u)])/\∀base:Heap,(K w.params).In base->base.Ns N_ mg->FnOk l.prog w (K w.params) mg base dm k fa fd [x] (ki (K w.params) false [.sh] F)):W.WalkO q Y XP YP l.row.toRowW d [] (fun f vs=>QfB f vs):=by
 refine L2.lQ (n:=63) (k:=k) (x:=x) (CX:=fun _=>dm) (sp:=fun w=>ki (K w.params) false [.sh] F) hn (by decide) Z hr hY C (fun w H a ns hl hO hS=>?_) fun _ _ _ _ _ z=>z;have U:∀(l:List Int),Paired Scl (l.map V.int) (l.map D.int):=fun l=>by induction l with
 |nil=>exact .nil
 |cons i l ih=>exact .cons (.int i) ih
 rcases hS with hS|hS
 .refine⟨fun b=>if b=a then some (.lst (ns.map D.int))else none,[.lst (ns.map .int)],fun b d' hb=>?_,.sh (.ref (if_pos rfl)) .nil,?_⟩
  .by_cases e:b=a
   .subst e;have hb':some (D.lst (ns.map D.int))=some d':=(if_pos rfl).symm.trans hb;cases hb';exact .lst hS (Paired.mono (fun _ _ z=>.scl z) (U ns))
   .have hb':(none:Option D)=some d':=(if_neg e).symm.trans hb;cases hb'
  .rw[hF ns hl];intro v G' H' w' rv;exact rv.bl w'.ok
 .refine⟨fun _=>none,[.lst (ns.map .int)],fun b d' hb=>(by cases hb),.sh (.kc (.lst (.inr hS) (U ns))) .nil,?_⟩;rw[hF ns hl];intro v G' H' w' rv;exact rv.bl w'.ok
section
open AutoSeq1 (wpAny_loadPart')
section
variable{prog:H_}{w:Z_}{A:Qag}{E:a_->c_->Prop}{s:c_}
theorem Vk{it t:Addr}{i:Nat}{items}{x:a_}{Q:a_->c_->Prop}(hit:s.heap.IsTupleIter it t i)(ht:s.heap.IsTuple t items)(hx:items[i]? = some x)(hQ:∀h',h'.IsTupleIter it t (i+1)->Qc5 it s.heap h'->Q x { s with heap:=h' }):x_ (E_ prog w) A (Qbk (.ref it)) Q E s:=by
 obtain⟨o,ho,hc,hd⟩:=id hit;obtain⟨ol,U,_,nl,Y⟩:=ht;unfold Qbk;refine b_ (Qcv (name:=C_ "__next__") hit.typeIs F.slot_tuple_iterator_next
  (QcM F.slot_tuple_iterator_next hit.typeIs F.entry_tuple_iterator_next ?_ (F.args_tuple_iterator_next_1 _)))
 show x_ _ _ (field (.ref it) 0 >>= _) _ _ s;refine b_ (QaI ho hd (x:=.ref t) rfl ?_);show x_ _ _ (if (Value.ref t==Value.none)=true then _ else _) _ _ s;rw[if_neg (show ¬ ((Value.ref t==Value.none)=true)from d_)];show x_ _ _ (field (.ref it) 1 >>= _) _ _ s;refine b_ (QaI ho hd (x:=.int i 0) rfl ?_);show x_ _ _ (Qei (.ref t) >>= _) _ _ s;refine b_ (wpAny_seqItems U Y ?_);simp only[QaR,hx];refine b_ (QbC ho hd (by simp) (n_ ⟨x,rfl,n_ (hQ _ ?_ (Qc2 ..))⟩));exact⟨_,Qap _ ho (Obj.isFreed_of_fields (Qey hd _)),(Obj.cls_mapFields ..).trans hc,by rw[Qey hd];simp[Qdt]⟩
theorem Va{it t:Addr}{i:Nat}{items}{Q:a_->c_->Prop}(hh:A.handled=none)(hit:s.heap.IsTupleIter it t i)(ht:s.heap.IsTuple t items)(hx:items[i]? = none)(hE:∀h' e,Heap.ExtBut it s.heap h'->(∃o,h'.get? e=some o/\o.cls=.type "StopIteration")->E (.ref e) { s with heap:=h' }):x_ (E_ prog w) A (Qbk (.ref it)) Q E s:=by
 obtain⟨o,ho,hc,hd⟩:=id hit;obtain⟨ol,U,_,nl,Y⟩:=ht;unfold Qbk;refine b_ (Qcv (name:=C_ "__next__") hit.typeIs F.slot_tuple_iterator_next
  (QcM F.slot_tuple_iterator_next hit.typeIs F.entry_tuple_iterator_next ?_ (F.args_tuple_iterator_next_1 _)))
 show x_ _ _ (field (.ref it) 0 >>= _) _ _ s;refine b_ (QaI ho hd (x:=.ref t) rfl ?_);show x_ _ _ (if (Value.ref t==Value.none)=true then _ else _) _ _ s;rw[if_neg (show ¬ ((Value.ref t==Value.none)=true)from d_)];show x_ _ _ (field (.ref it) 1 >>= _) _ _ s;refine b_ (QaI ho hd (x:=.int i 0) rfl ?_);show x_ _ _ (Qei (.ref t) >>= _) _ _ s;refine b_ (wpAny_seqItems U Y ?_);simp only[QaR,hx];refine b_ (wpAny_rule (b_ (QbC ho hd (by simp) ?_)));show x_ _ _ (newExc (.type "StopIteration") [] >>= _) _ _ _;refine b_ ?_;simp only[newExc,newTuple];refine b_ (QaS ?_ (by size_fits));refine b_ (m:=firstArgMember _ _) (wpAny_of_eq (a:=Value.none) (by first|rfl|(simp only[firstArgMember];rfl)) ?_);refine QaS ?_ (by size_fits);simp only[raiseNew];refine b_ (wpAny_handled ?_)
 first|rw[show A.in1.handled=none from hh]|rw[hh]
 refine b_ (n_ (wpAny_throw ?_));exact hE _ _ (((Qc2 ..).extBut.push _).push _) ⟨_,B_ _ rfl,rfl⟩
end
theorem LU{prog:H_}{w:Z_}{A:Qag}(hh:A.handled=none)(it l:Addr)(hne:l≠it)(items:Array a_):Draws prog w A it [it,l] items.size (fun i v=>items[i]? = some v) (fun i h=>h.IsTupleIter it l i/\h.IsTuple l items) where
 live:=fun _ _ st=>let⟨o,ho,_⟩:=st.1;⟨o,ho⟩
 frame:=fun _ _ _ st hk=>⟨let⟨o,ho,r⟩:=st.1;⟨o,hk it (by simp) o ho,r⟩,let⟨o,ho,r⟩:=st.2;⟨o,hk l (by simp) o ho,r⟩⟩
 item:=fun i s Q E hi st hQ=>by refine Vk st.1 st.2 (x:=items[i]) (by simp[hi]) fun h' hit' U=>?_;exact hQ _ h' s.toks (by simp[hi]) ⟨hit',st.2.extBut U.extBut hne⟩ U
 done:=fun s Q E st hE=>Va hh st.1 st.2 (by simp) hE
theorem Ve(l:Addr)(items:Array a_)(n:Nat)(U:Option Addr)(sl:Array (Option a_)) :
  Meets (QdL.«enumerate.__new__» ⟨[.type "enumerate",.ref l],[]⟩) (fun _ R s=>s.heap.get? l=some { cls:=.type "tuple",dict:=U,data:=.seq items n,slots:=sl } /\
   R (.ok (.ret (.ref (s.heap.push { cls:=.type "tuple_iterator",data:=.fields #[.ref l,.int 0 0] }).objs.size)))
    { s with heap:=(s.heap.push { cls:=.type "tuple_iterator",data:=.fields #[.ref l,.int 0 0] }).push { cls:=.type "enumerate",data:=.fields #[.none,.bool false,.ref s.heap.objs.size,Qdt 0,.none,.none] } }):=
 .of_wp fun prog w A R s h=>by
  obtain⟨hp,g,d,tk,os⟩:=s;obtain⟨hl,h⟩:=h;have Y:=sub_enumerate;have hL:Heap.IsTuple (Shared.heap ⟨hp,g,d,tk,os⟩) l items:=⟨_,hl,rfl,n,rfl⟩
  wp_walk using QbO hl
  refine wpAny_stack_any fun st=>n_ ?_;split
  .rename_i c _ _ _ _ _;cases(c==Value.type "enumerate")
   .wp_walk using QbO hl,Qcr hL
    exact⟨_,rfl,h⟩
   .wp_walk using QbO hl,Qcr hL
    exact⟨_,rfl,h⟩
  .wp_walk using QbO hl,Qcr hL
   exact⟨_,rfl,h⟩
section
variable{prog:H_}{w:Z_}{A:Qag}{E:a_->c_->Prop}{s:c_}
theorem Vj{l:Addr}{items:Array a_}{Q:a_->c_->Prop}(hL:s.heap.IsTuple l items)(h:∀h',IsEnum h' (s.heap.objs.size+1) s.heap.objs.size 0 .none->h'.IsTupleIter s.heap.objs.size l 0->h'.objs.size=s.heap.objs.size+2 ->(∀b o,s.heap.get? b=some o->h'.get? b=some o)->Q (.ref (s.heap.objs.size+1)) { s with heap:=h' }):x_ (E_ prog w) A (call (.type "enumerate") [.ref l]) Q E s:=by
 obtain⟨⟨c,U,dt,sl⟩,hl,hc,n,hd⟩:=hL;replace hc:c=.type "tuple" := hc;replace hd:dt=.seq items n:=hd;subst hc hd;refine callType_new F.called_enumerate (by decide) (F.typeCall_enumerate_1 _) (F.newCall_enumerate_1 _) (fun obj=>F.args_object_init_2 obj _) F.entry_enumerate_new
  (Ve l items n U sl) ⟨hl,?_⟩
 have hz:(s.heap.push { cls:=.type "tuple_iterator",data:=.fields #[.ref l,.int 0 0] }).objs.size=s.heap.objs.size+1:=QbX ..;show _/\_;rw[hz];have he:IsEnum ((s.heap.push { cls:=.type "tuple_iterator",data:=.fields #[.ref l,.int 0 0] }).push
   { cls:=.type "enumerate",data:=.fields #[.none,.bool false,.ref s.heap.objs.size,Qdt 0,.none,.none] }) (s.heap.objs.size+1) s.heap.objs.size 0 .none:=by
  have:=B_ (s.heap.push { cls:=.type "tuple_iterator",data:=.fields #[.ref l,.int 0 0] })
   (o:={ cls:=.type "enumerate",data:=.fields #[.none,.bool false,.ref s.heap.objs.size,Qdt 0,.none,.none] }) rfl
  rw[hz]at this;exact this
 refine⟨⟨_,he,rfl⟩,h _ he ⟨_,i_ _ (B_ _ rfl),rfl,rfl⟩ (by rw[QbX,hz]) fun b o x=>i_ _ (i_ _ x)⟩
end
theorem Q2{X:Cx}{pz:List (Addr×Obj)}{σ:L2.St}{H:Hp}{s:c_}{h':Heap}{ch:List Addr}{T:Addr}{o:HO}{t':Nat}(I:Inv X pz σ H s)(Y:∀b∈ch,eY X pz H b)(k:∀b ob,b∉ch->s.heap.get? b=some ob->h'.get? b=some ob)(hT:s.heap.objs.size<=T)(new:cY X.prog X.w (aY H T o) h' T o):Inv X pz σ (aY H T o) { s with heap:=h',toks:=t' }:=by
 have Z:H T=none:=I.hok.fresh hT;have trk:∀b u,H b=some u->b∉ch:=fun b u e hb=>by rw[(Y b hb).1]at e;cases e
 have BT:∀b ob,s.heap.get? b=some ob->b≠T:=fun b ob e=>S_ (G_ (w_ e) hT);have U:∀b u,H b=some u->aY H T o b=some u:=fun b u e=>by rw[bT (ng e Z)];exact e
 refine I.step (g':=s.gens) (d':=s.drawn) (ch:=ch) (fun b hb=>?_) (fun b ob _ _ hc e _=>k b ob hc e) (fun b ob _ _ hc e _=>⟨ob.slots,k b ob hc e⟩) (fun b ob hc e n=>by rw[bT (BT b ob e)];exact n)
  (fun b ob hc e=>⟨ob,k b ob hc e⟩) (fun b xs e=>U b _ e) (fun b ob u e=>U b _ e) (fun b ps e=>⟨#[],by rw[U b _ e];simp⟩) (fun m hm=>?_) (fun b u e=>?_) I.bare
 .obtain⟨z0,z1,z2,z3,z4,z5⟩:=Y b hb;exact⟨z3,z1,z4,z5⟩
 .obtain⟨ob,es,ep,ho,r⟩:=hm;exact⟨ob,es,ep,k _ ob (fun hb=>(Y _ hb).2.1 rfl) ho,r⟩
 .by_cases hb:b=T
  .subst hb;rw[cV]at e;cases e;exact new
  .rw[bT hb]at e;refine(I.hok b u e).stay (fun c v hc q=>k c v ?_ q) (fun c q=>U c _ q) fun c xs q=>U c _ q;rcases hc with z|z
   .rw[z];exact trk b u e
   .exact trk c _ z
def qk(sq:Hp->List V->Prop):It:=⟨fun i H=>∃xs x,sq H xs/\xs[i]? = some x,fun i H x H'=>∃p v,H p=none/\x=.ref p/\H'=aY H p (.tup [.int i,v])/\∀xs,sq H xs->xs[i]? = some v,fun i H=>∃xs,sq H xs/\xs.length=i⟩
theorem Qb{P:H_}{w:Z_}{H:Hp}{h:Heap}{T:Addr}{i:Nat}{tk:Tok}{x:a_}{v:V}(hT:h.get? T=some { cls:=.type "tuple",data:=.seq #[.int i tk,x] })(r:L2.bH v x):cY P w H h T (.tup [.int i,v]):=⟨by show 2<=sizeLine;decide,[.int i tk,x],.cons ⟨tk,rfl⟩ (.cons r .nil),⟨_,hT,rfl,0,rfl⟩,_,hT,rfl⟩
def qd(K:W.Frag)(t:Bool)(a:Addr)(H:Hp)(xs:List V):Prop:=match t with
|false=>cX K H a xs
|true=>dG K H a xs
def qg(t:Bool)(a u:Addr)(i:Nat)(h:Heap):Prop:=match t with
|false=>h.IsListIter u a i
|true=>h.IsTupleIter u a i
def WT(t:Bool)(a:Addr)(xs:Array a_)(h:Heap):Prop:=match t with
|false=>h.IsList a xs
|true=>h.IsTuple a xs
theorem GL{t:Bool}{a u:Addr}{i:Nat}{h:Heap}(e:qg t a u i h):∃o,h.get? u=some o/\∀v,o.data≠.cell v:=by cases t <;> (obtain⟨o,ho,hc,hd⟩:=e;exact⟨o,ho,fun v z=>by rw[hd]at z;cases z⟩)
theorem IM{t:Bool}{a u:Addr}{i:Nat}{h h':Heap}(e:qg t a u i h)(k:∀o,h.get? u=some o->h'.get? u=some o):qg t a u i h':=by cases t <;> (obtain⟨o,ho,r⟩:=e;exact⟨o,k o ho,r⟩)
section
variable{X:Cx}{pz:List (Addr×Obj)}{σ:L2.St}{H:Hp}{s:c_}{t:Bool}{a u:Addr}{xs ys:List V}{i:Nat}
theorem F1(I:Inv X pz σ H s)(hq:qd X.K t a H xs):∃its:List a_,aP xs its/\WT t a its.toArray s.heap:=by cases t with
|false=>obtain⟨its,rv,p,hz⟩:=I.list hq;exact⟨its,rv,p.isList⟩
|true=>obtain⟨its,rv,p,hz⟩:=I.tuple hq;exact⟨its,rv,p⟩
theorem EV(I:Inv X pz σ H s)(hc:X.calm=true)(hq:qd X.K t a H xs)(U:a≠u)(hi:qg t a u i s.heap):∃(its:List a_)(St:Nat->Heap->Prop),aP xs its/\Draws X.prog X.w X.A.in1 u [u,a] its.toArray.size (fun i v=>its.toArray[i]? = some v) St/\St i s.heap/\∀j h',St j h'->qg t a u j h':=by obtain⟨its,rv,p⟩:=F1 I hq;have hh:X.A.in1.handled=none:=I.ok.hd hc;cases t with
|false=>exact⟨its,_,rv,Draws.list hh u a U its.toArray,⟨hi,p⟩,fun j h' st=>st.1⟩
|true=>exact⟨its,_,rv,LU hh u a U its.toArray,⟨hi,p⟩,fun j h' st=>st.1⟩
theorem Pq(I:Inv X pz σ H s)(h1:qd X.K t a H xs)(h2:qd X.K t a H ys):xs=ys:=by cases t with
|false=>exact I.list_inj h1 h2
|true=>exact I.tuple_inj h1 h2
theorem wK(I:Inv X pz σ H s)(h1:qd X.K t a H xs):a<s.heap.objs.size:=by obtain⟨its,rv,p⟩:=F1 I h1;cases t <;> (obtain⟨o,ho,_⟩:=p;exact w_ ho)
end
theorem JB{P:H_}{w:Z_}{K:W.Frag}{elts:List Expr}{k:Nat}{pos:Pos}{t:Bool}(a it e:Addr)(Y:e≠it)(Z:a≠it)(LT:e≠a):Turn P w K (.Tuple elts k pos) (qk (qd K t a)) [e,it] e (fun i h=>(∃old,IsEnum h e it i old)/\qg t a it i h) where
 mem:=by simp
 obj:=fun i h st b hb=>by
  obtain⟨⟨old,he⟩,hi⟩:=st;rcases t_.mp hb with rfl|hb
  .exact⟨_,he,fun v z=>by have z':Data.fields _=Data.cell v:=z;cases z'⟩
  .rw[Qbf.mp hb];exact GL hi
 keep:=fun i h h' st kk=>by obtain⟨⟨old,he⟩,hi⟩:=st;exact⟨⟨old,kk e (by simp) _ he⟩,IM hi fun o q=>kk it (by simp) o q⟩
 item:=by
  intro X hP hw hK hc i pz s σ H E I hf st hg;subst hP hw hK;obtain⟨xs,x,hq,hx⟩:=hg;obtain⟨⟨old,he⟩,hi⟩:=st;obtain⟨its,St,rv,D1,d1,f1⟩:=EV I hc hq Z hi;obtain⟨o1,LE,_⟩:=GL hi;have hlt:i<its.toArray.size:=by have:=(m_.mp hx).1;rw[q_,<-rv.length];exact this
  refine wpAny_pyNext_enum_itemD D1 he d1 hlt Y (by simp[Y,LT]) fun y h' tk hP ho IO hT hsz hk=>?_;refine⟨_,rfl,wpAny_letOwnedTupleGo_enum ho fun BT Id U=>?_⟩;obtain⟨u,hu,ru⟩:=rv.get hx;have hy:y=u:=by
   have:its[i]? = some y:=by simpa using hP
   rw[hu]at this;exact(J_ this).symm
  subst hy;have KK:s.heap.objs.size≠e:=QbI (w_ he);have Cl:BT.get? s.heap.objs.size=some { cls:=.type "tuple",data:=.seq #[.int i tk,y] }:=(U.2 _ KK).trans hT;refine⟨.ref s.heap.objs.size,aY H s.heap.objs.size (.tup [.int i,x]),Q2 (s:=s) (h':=BT) (t':=tk+1) (ch:=[e,it]) I hf (fun b ob hb q=>?_) (r_ _) (Qb Cl ru),rfl,⟨_,x,I.hok.fresh (r_ _),rfl,rfl,fun ys hy=>by rw[Pq I hy hq];exact hx⟩,⟨⟨_,by simpa using Id⟩,IM (f1 _ _ IO) fun o q=>(U.2 _ (Qby Y)).trans q⟩,fun b hb=>?_⟩
  .have hbe:b≠e:=fun z=>hb (by simp[z]);exact(U.2 b hbe).trans (hk b ob hbe (fun z=>hb (by simp[z])) q)
  .rw[bT ?_]
   .exact(hf b hb).1
   .rcases t_.mp hb with rfl|hb
    .exact S_ (w_ he)
    .rw[Qbf.mp hb];exact S_ (w_ LE)
 done:=by
  intro X hP hw hK hc i pz s σ H E I hf st hg;subst hP hw hK;obtain⟨xs,hq,hx⟩:=hg;obtain⟨⟨old,he⟩,hi⟩:=st;obtain⟨its,St,rv,D1,d1,f1⟩:=EV I hc hq Z hi;obtain⟨f0,f1,f2,f3,f4,f5⟩:=hf it (by simp);have hn:its.toArray.size=i:=by rw[q_,<-rv.length];exact hx
  exact wpAny_pyNext_enum_endD D1 he (by rw[hn];exact d1) fun h' eb=>⟨rfl,I.turned (t':=s.toks) (fun b o hb q=>eb b o hb q) f0 f1 f3 f4 f5⟩
 self:=fun _ _ _ _ _ st h=>let⟨⟨_,he⟩,_⟩:=st;Qds he h
end
def lR:D->Option String
|.non=>some "NoneType"
|.bl _=>some "bool"
|.int _=>some "int"
|.str _=>some "str"
|.tup _=>some "tuple"
|.lst _=>some "list"
|.dic _=>some "dict"
|.obj _ _=>none
def gu(t T:String):Bool:=t==T || (t == "bool" && T == "int")
def iX(T:String)(d:D):Option D:=(lR d).map fun t=>.bl (gu t T)
def LO(K:W.Frag)(x:V)(H:Hp)(t:String):Prop:=match x with
|.non=>t = "NoneType"
|.bl _=>t = "bool"
|.int _=>t = "int"
|.str _=>t = "str"
|.ref p=>(t = "list"/\∃xs,cX K H p xs)\/(t = "tuple"/\∃xs,dG K H p xs)\/(t = "dict"/\∃kvs,Rd H p (.dK kvs))
|_=>False
theorem NK{K:W.Frag}{G:GH}{H:Hp}{v:V}{d:D}{t:String}(gk:cp K G H)(h:RB K G H v d)(e:lR d=some t):LO K v H t:=by cases d with
|non=>cases e;rw[h.non gk];rfl
|bl b=>cases e;rw[h.bl gk];rfl
|int i=>cases e;rw[h.int gk];rfl
|str x=>cases e;rw[h.str gk];rfl
|tup ds=>cases e;obtain⟨a,xs,rfl,s,r⟩:=h.tup gk;exact .inr (.inl ⟨rfl,xs,s⟩)
|lst ds=>cases e;obtain⟨a,xs,rfl,s,r⟩:=h.lst gk;exact .inl ⟨rfl,xs,s⟩
|dic ds=>cases e;obtain⟨a,xs,rfl,s,r⟩:=h.dic gk;exact .inr (.inr ⟨rfl,xs,s⟩)
|obj _ _=>cases e
variable{p2:Pos}
theorem Rq:gL X (.builtin "isinstance") (fun xs H Q=>∃x t T b,xs=[x,.ty T]/\LO X.K x H t/\W.kitOne X.K (.type t) (.type T)=some b/\Q (.bl b) H):=by
 intro pz s σ H xs us Q I r h;obtain⟨x,t,T,b,rfl,ty,e,q⟩:=h;obtain⟨u,w',rfl,rx,ry⟩:=uJ r;cases ry;have fin:∀tk,EP X pz σ Q (.bool b) { s with toks:=tk }:=fun tk=>⟨.bl b,H,I.tok tk,rfl,q⟩
 cases x with
|non=>cases rx;cases(show t = "NoneType" from ty);exact W.kia_one W.kitx_none I.kIn True.intro e (fun z=>nomatch z) fin
|bl y=>cases rx;cases(show t = "bool" from ty);exact W.kia_one W.kitx_bool I.kIn True.intro e (fun z=>nomatch z) fin
|int i=>obtain⟨t,rfl⟩:=rx;cases ty;exact W.kia_one W.kitx_int I.kIn True.intro e (fun z=>nomatch z) fin
|str i=>obtain⟨t,rfl⟩:=rx;cases ty;exact W.kia_one W.kitx_str I.kIn True.intro e (fun z=>nomatch z) fin
|ref p=>
  cases rx;rcases ty with⟨rfl,xs,hq⟩|⟨rfl,xs,hq⟩|⟨rfl,kvs,hq⟩
  .obtain⟨its,_,pl,_⟩:=I.list hq;obtain⟨o,ho,hc,_⟩:=pl.isList;exact W.kia_one W.kitx_list I.kIn ⟨o,ho,hc⟩ e (fun z=>nomatch z) fin
  .obtain⟨its,_,pl,_⟩:=I.tuple hq;obtain⟨o,ho,hc,_⟩:=pl;exact W.kia_one W.kitx_tuple I.kIn ⟨o,ho,hc⟩ e (fun z=>nomatch z) fin
  .obtain⟨_,_,vs,_,pp⟩:=(show cY X.prog X.w H s.heap p (.dK kvs)from hq.ok I.hok)
   obtain⟨o,es,ep,h1,h2,_⟩:=pp;exact W.kia_one W.kitx_dict I.kIn ⟨o,h1,h2.1⟩ e (fun z=>nomatch z) fin
|_=>exact(show False from ty).elim
theorem qG(x:Str)(T:String)(hv:Qb4 x=some (.type T))(hk:∀(d:D)(t:String),lR d=some t->W.kitOne X.K (.type t) (.type T)=some (gu t T))(hg:Gl X "isinstance")(hm:X.mg "isinstance" = none)(Z:Gl X x)(Y:X.mg x=none)(he:SB X g m e f)(hn:x≠"__name__" := by decide)(hd:(x==("__debug__" : Str))=false:=by decide)(U:h_ [e,.Name x p2] X.env=(false,eval e X.env)::h_ [.Name x p2] X.env:=by rfl)(BT:h_ [.Name x p2] X.env=(false,eval (.Name x p2) X.env)::h_ [] X.env:=by rfl)(hpl:(backTo pos (h_ [.Name x p2] X.env)).any (·.1)=false:=by rfl):SE X g m (.Call (.Name "isinstance" p) [e,.Name x p2] [] pos) (f1 f (iX T)):=by
 refine PE.imp (rJ Rq hg hm (by first|exact Qc0|rfl) (jt he (jt (Qc (v:=.ty T) Z Y hv rfl hn hd) lB BT) U) (by decide) (by decide) U hpl) fun σ H Q ⟨r,G,si,q⟩=>⟨r,G,si,cJ (cN q) fun d q1 v G1 H1 w1 r1=>?_⟩
 obtain⟨d',e',q2⟩:=dU q1;unfold iX at e';cases et:lR d with
|none=>rw[et]at e';cases e'
|some t=>rw[et]at e';cases e';exact⟨v,t,T,_,rfl,NK w1.ok r1 et,hk d t et,q2 _ G1 H1 w1 (.scl (.bl _))⟩
theorem wL{d:D}{t:String}(h:lR d=some t){P:String->Prop}(h1:P "NoneType")(h2:P "bool")(h3:P "int")(h4:P "str")(h5:P "tuple")(h6:P "list")(h7:P "dict"):P t:=by cases d <;> cases h <;> assumption
theorem Pa(K:W.Frag)(d:D)(t:String)(h:lR d=some t):W.kitOne K (.type t) (.type "int")=some (gu t "int"):=wL (P:=fun t=>W.kitOne K (.type t) (.type "int")=some (gu t "int")) h (by kernel_rfl) (by kernel_rfl) (by kernel_rfl) (by kernel_rfl) (by kernel_rfl) (by kernel_rfl) (by kernel_rfl)
theorem Q4(K:W.Frag)(d:D)(t:String)(h:lR d=some t):W.kitOne K (.type t) (.type "bool")=some (gu t "bool"):=wL (P:=fun t=>W.kitOne K (.type t) (.type "bool")=some (gu t "bool")) h (by kernel_rfl) (by kernel_rfl) (by kernel_rfl) (by kernel_rfl) (by kernel_rfl) (by kernel_rfl) (by kernel_rfl)
theorem Q5(K:W.Frag)(d:D)(t:String)(h:lR d=some t):W.kitOne K (.type t) (.type "list")=some (gu t "list"):=wL (P:=fun t=>W.kitOne K (.type t) (.type "list")=some (gu t "list")) h (by kernel_rfl) (by kernel_rfl) (by kernel_rfl) (by kernel_rfl) (by kernel_rfl) (by kernel_rfl) (by kernel_rfl)
theorem IU(K:W.Frag)(d:D)(t:String)(h:lR d=some t):W.kitOne K (.type t) (.type "tuple")=some (gu t "tuple"):=wL (P:=fun t=>W.kitOne K (.type t) (.type "tuple")=some (gu t "tuple")) h (by kernel_rfl) (by kernel_rfl) (by kernel_rfl) (by kernel_rfl) (by kernel_rfl) (by kernel_rfl) (by kernel_rfl)
variable{pos2:Pos}
def gy(lo:Int)(n:Nat):List V:=(e_ n).map fun(i:Nat)=>V.int (lo+(i:Int))
theorem N4{K:W.Frag}{G:GH}(lo:Int)(n:Nat):dB K G (gy lo n) (fq lo n):=by
 unfold gy fq
 induction(e_ n)with
|nil=>exact .nil
|cons i l ih=>exact .cons (.scl (.int _)) ih
theorem Du:∀{xs:List V}{us:List a_},xs.length=us.length->(∀(j:Nat) v u,xs[j]? = some v->us[j]? = some u->L2.bH v u)->aP xs us
|[],[],_,_=>.nil
|v::xs,u::us,hl,h=>.cons (h 0 v u rfl rfl) (Du (by simpa using hl) fun j a b e1 e2=>h (j+1) a b (by simpa using e1) (by simpa using e2))
|[],_::_,hl,_=>by simp at hl
|_::_,[],hl,_=>by simp at hl
theorem RK{lo:Int}{n:Nat}{acc:Array a_}(h:ItemsOf (fun i v=>∃t,v=.int (lo+i*1) t) acc n):aP (gy lo n) acc.toList:=by
 refine Du (by simp[gy,h.1]) fun j v u e1 e2=>?_;have hj:j<n:=by have:=(m_.mp e1).1;simpa[gy]using this
 unfold gy at e1;rw[u_,Qax hj]at e1;cases e1;obtain⟨t,rfl⟩:=h.2 j u (by rw[<-QbR];exact e2);exact⟨t,by simp⟩
theorem RC:gL X (.type "range") (fun xs H Q=>∃j,xs=[.int j]/\∀p,H p=none->Q (.ref p) (aY H p (.rng 0 j))):=by intro pz s σ H xs us Q I r h;obtain⟨j,rfl,q⟩:=h;obtain⟨u,rfl,t,rfl⟩:=jp r;refine call_range_1 ⟨.ref s.heap.objs.size,_,I.laid (o:=.rng 0 j) (fun b o e=>i_ _ e) (r_ _) ⟨_,_,_,B_ _ rfl⟩,rfl,q _ (I.hok.fresh (r_ _))⟩
theorem UW(hc:X.calm=true):gL X (.type "list") (fun xs H Q=>∃p lo hi,xs=[.ref p]/\H p=some (.rng lo hi)/\(-(2^62)<=lo/\lo<2^62/\-(2^62)<=hi/\hi<2^62)/\(hi-lo).toNat<=sizeLine/\∀l,H l=none->Q (.ref l) (aY H l (.lst (gy lo (hi-lo).toNat)))):=by
 intro pz s σ H xs us Q I r h;obtain⟨p,lo,hi,rfl,hp,⟨h1,h2,h3,h4⟩,hz,q⟩:=h;obtain⟨u,rfl,rx⟩:=jp r;cases rx;obtain⟨t,u,v,ho⟩:=(show cY X.prog X.w H s.heap p (.rng lo hi)from I.hok p _ hp)
 have e2:QdB lo hi 1=(((hi-lo).toNat:Nat):Int):=by rw[rangeSize_one];split <;> omega
 refine call_list_range (I.ok.hd hc) (r:=p) (a:=lo) (b:=hi) (c:=1) ho (small_one h1 h2 h3 h4) e2 (by rw[Qaa]at hz;omega) fun h' tk acc c' kp hS U=>?_;refine⟨.ref s.heap.objs.size,_,I.laid (t':=tk) kp (r_ _) (show cY X.prog X.w _ h' _ (.lst (gy lo (hi-lo).toNat))from⟨by unfold gy;rw[l_,QaV];exact hz,acc.toList,c',RK U,by rw[Qec];exact hS⟩),rfl,q _ (I.hok.fresh (r_ _))⟩
def ll:List D->Option D
|[.int j]=>if-(2^62)<=j/\j<2^62/\j.toNat<=sizeLine then some (.lst (fq 0 j.toNat))else none
|_=>none
theorem Gb{H:Hp}{p l:Addr}{o:HO}(h:aY H p o l=none):H l=none/\l≠p:=by
 by_cases e:l=p
 .subst e;rw[cV]at h;cases h
 .rw[bT e]at h;exact⟨h,e⟩
theorem pI(hc:X.calm=true)(Z:Gl X "list")(Y:X.mg "list" = none)(hg:Gl X "range")(hm:X.mg "range" = none)(ha:j4 X g m [a] fl)(hs:h_ [a] X.env=(false,eval a X.env)::h_ [] X.env:=by rfl)(U:h_ [.Call (.Name "range" p2) [a] [] pos2] X.env=(false,eval (.Call (.Name "range" p2) [a] [] pos2) X.env)::h_ [] X.env:=by rfl):SO X g m (.Call (.Name "list" p) [.Call (.Name "range" p2) [a] [] pos2] [] pos) (fC fl ll):=by
 refine PE.imp (pS (UW hc) Z Y rfl (jt (pS RC hg hm boot_range ha (by decide) (by decide) hs rfl) lB U) (by decide) (by decide) U rfl) fun σ H Q ⟨r,G,si,q⟩=>⟨r,G,si,cJ (cN q) fun ds q1 vs G1 H1 w1 rs=>?_⟩
 obtain⟨d,e,q2⟩:=dU q1;unfold ll at e;split at e
 .split at e
  .rename_i j hj;cases e;cases rs with
  |cons r1 t=>cases t;refine⟨j,by rw[r1.int w1.ok],fun p hp=>⟨p,0,j,rfl,cV,⟨by decide,by decide,hj.1,hj.2.1⟩,by simpa using hj.2.2,fun l hl=>?_⟩⟩;obtain⟨hl1,hl2⟩:=Gb hl;have w2:=Grow.new w1.ok hp (.rng 0 j);have w3:=Grow.new w2.ok hl (.lst (gy 0 (j-0).toNat));refine q2 l G1 _ (w1.trans (w2.trans w3)) (w1.back hl1) ⟨w1.ok.isN hl1,.lst cV ?_⟩;rw[show j-0=j by omega];exact N4 0 _
  .cases e
 .cases e
def LR(K:W.Frag)(r:V->List V->Hp->VK->Prop)(k:D->List D->Option D):Prop:=∀(G:GH)(H:Hp)(v:V)(d:D)(vs:List V)(ds:List D)(d':D)(Q:VK),cp K G H->RB K G H v d->Paired (RB K G H) vs ds->k d ds=some d' ->(∀v' G' H',Grow K G H G' H'->RG K G' v' d'->Q v' H')->r v vs H Q
def zY(T:String):D->Bool
|.lst _=>T == "list"
|.tup _=>T == "tuple"
|.dic _=>T == "dict"
|.str _=>T == "str"
|.int _=>T == "int"
|_=>false
theorem NL{K:W.Frag}{G:GH}{H:Hp}{v:V}{d:D}{T:String}(gk:cp K G H)(h:RB K G H v d)(t:zY T d=true):qc K T v H:=by cases d with
|lst ds=>obtain⟨a,xs,rfl,s,r⟩:=h.lst gk;exact .inl ⟨QaQ t,xs,s⟩
|tup ds=>
  have e:T = "tuple" := QaQ t;rcases h with h|⟨a,rfl,o⟩
  .cases h with
  |scl s=>cases s
  |ref q=>cases gk _ _ q with
   |tup r s=>exact .inr (.inl ⟨e,.inr ⟨_,r⟩⟩)
  |kc k=>cases k with
   |tup r s z=>exact .inr (.inl ⟨e,.inl z⟩)
  .cases o.ob
|dic ds=>obtain⟨a,xs,rfl,s,r⟩:=h.dic gk;exact .inr (.inr (.inl ⟨QaQ t,.inl ⟨xs,s⟩⟩))
|str x=>rw[h.str gk];exact QaQ t
|int x=>rw[h.int gk];exact QaQ t
|_=>cases t
def fM(T:String)(fo:FE)(fl:aQ->Res (List D))(k:D->List D->Option D):FE:=fun r=>(fo r).bind fun d=>if zY T d=true then(fl r).bind fun ds=>fA (k d ds)else .stuck
section
variable{o:Expr}{fo:FE}{apos cpos:Pos}{ro:Bool}{x name:Str}{T id:String}{R:V->List V->Hp->VK->Prop}{k:D->List D->Option D}
theorem oy(pa:QdP T)(slot:Slot T name id)(Cl:Qev (.builtin id)=pure (.type "method_descriptor"))(IO:lj X id R)(hk:LR X.K R k)(ho:SB X g m o fo)(ha:j4 X g m (e::es) fl)(Z:Qa9 o name X.env (eval o X.env)=eval o X.env:=by rfl)(BT:((backTo cpos (h_ (e::es) X.env)).all (fun x=>! x.1)&&(Qdf cpos (QbY [] X.env)).all (fun x=>x.1.isSome)&&decide ((e::es).length+([]:List QeP).length+(if ([]:List QeP).isEmpty then 0 else 1)<30))=true:=by rfl)(Y:(apos.endLine==cpos.line)=true:=by rfl)(Id:h_ (e::es) X.env=(false,eval e X.env)::h_ es X.env:=by rfl)(U:(backTo cpos (h_ es X.env)).any (·.1)=false:=by rfl):SE X g m (.Call (.Attribute o name apos) (e::es) [] cpos) (fM T fo fl k):=by
 refine PE.imp (Fe pa slot Cl IO ho ha Z BT Y Id U) fun σ H Q ⟨r,G,si,q⟩=>⟨r,G,si,cJ (cN q) fun d q1 v G1 H1 w1 r1=>?_⟩
 by_cases ht:zY T d=true
 .rw[if_pos ht]at q1;refine⟨NL w1.ok r1 ht,r,G1,si.grow w1,iN (cN q1) w1 fun ds q2 vs G2 H2 w2 rs=>?_⟩;obtain⟨d',e',q3⟩:=dU q2;exact hk G2 H2 v d vs ds d' Q w2.ok (r1.mono w2) rs e' fun v' G' H' w' z=>q3 v' G' H' ((w1.trans w2).trans w') z
 .rw[if_neg ht]at q1;exact q1.elim
def nF(x:V):List V->Option Nat
|[]=>none
|y::xs=>if il y x=true then some 0 else(nF x xs).map (· + 1)
def mC(x:D):List D->Option Nat
|[]=>none
|y::xs=>if eqs y x=true then some 0 else(mC x xs).map (· + 1)
theorem IJ(x:D):∀ds:List D,nF (gR x) (ds.map gR)=mC x ds
|[]=>rfl
|y::ds=>by show(if il (gR y) (gR x)=true then some 0 else(nF (gR x) (ds.map gR)).map (· + 1))=if eqs y x=true then some 0 else(mC x ds).map (· + 1);rw[IJ x ds];rfl
theorem QX{x:V}{xs:List V}{us:List a_}{j:Nat}(h0:aP xs us)(f:xs.all iJ=true)(h:nF x xs=some j):∃hj:j<us.length,fB x us[j]=true/\∀i (hi:i<us.length),i<j->fB x us[i]=false:=by induction h0 generalizing j with
|nil=>cases h
|@cons y u xs us r t ih=>
  rw[Qba,M_]at f;unfold nF at h;by_cases hy:il y x=true
  .rw[if_pos hy]at h;cases h;exact⟨Nat.zero_lt_succ _,by show fB x u=true;rw[qV r f.1];exact hy,fun i _ hlt=>absurd hlt (Nat.not_lt_zero _)⟩
  .rw[if_neg hy]at h;cases e:nF x xs with
  |none=>rw[e]at h;cases h
  |some z=>rw[e]at h;cases h;obtain⟨a,b,c⟩:=ih f.2 e;refine⟨Nat.succ_lt_succ a,b,fun i hi hlt=>?_⟩;cases i with
   |zero=>show fB x u=false;rw[qV r f.1];simpa using hy
   |succ i=>exact c i (QdW hi) (QdW hlt)
def mP(xs:List V):Bool:=xs.all fun x=>match x with|.int _=>true|_=>false
theorem UA{xs:List V}(h:mP xs=true):xs.all iJ=true:=by unfold mP at h;rw[Qbb]at h ⊢;intro x hx;have:=h x hx;cases x <;> first|rfl|exact absurd this d_
theorem IW{k:Int}{t:Tok}:∀{xs:List V}{us:List a_},aP xs us->mP xs=true->∀u∈us,Qe5 u (.int k t) (fB (.int k) u)
|_,_,.nil,_=>fun u hu=>by cases hu
|y::xs,u::us,.cons r rt,f=>fun u' hu=>by unfold mP at f;rw[Qba,M_]at f;cases y with
 |int i=>
   obtain⟨t',rfl⟩:=r;rcases t_.mp hu with rfl|hu
   .exact MeetsSeq.EqGives.int i k t' t
   .exact IW rt f.2 u' hu
 |_=>exact absurd f.1 d_
def Fw:V->List V->Hp->VK->Prop:=fun x vs H Q=>∃l xs k j,x=.ref l/\vs=[.int k]/\H l=some (.lst xs)/\mP xs=true/\nF (.int k) xs=some j/\Q .non (aY H l (.lst (xs.eraseIdx j)))
theorem B9:lj X "list.remove" Fw:=by
 intro pz s σ H x vs v us Q I rx rv h;obtain⟨l,xs,k,j,rfl,rfl,hH,hi,e,q⟩:=h;cases rx;obtain⟨u,rfl,t,rfl⟩:=jp rv;obtain⟨hz,its,n,r,hl,eo⟩:=I.lstM hH;obtain⟨a,b,c⟩:=QX r (UA hi) e;have U:∀y,y∈its.toArray->Qe5 y (.int k t) (fB (.int k) y):=fun y hy=>IW r hi y (by simpa using hy);have hsz:its.toArray.size<=sizeLine:=by rw[q_];omega
 refine QcN Qbv ⟨_,eo,rfl⟩ PySem.F.entry_list_remove (PySem.F.args_list_remove_2 _ _) (MeetsSeq.list_remove l its.toArray n (.int k t) (fB (.int k)) U j (by simpa using a) (by simpa using b) (fun i hi hlt=>by simpa using c i (by simpa using hi) hlt) hsz) ⟨eo,?_⟩;refine⟨.non,_,I.lset (its':=its.eraseIdx j) hH eo ?_ ?_ ?_,rfl,q⟩
 .apply Array.toList_inj.mp;simp[Array.toList_eraseIdxIfInBounds]
 .exact aP.eraseIdx j r
 .have:=List.length_eraseIdx_le xs j;omega
def isInt:D->Bool
|.int _=>true
|_=>false
theorem Np{K:W.Frag}{G:GH}{H:Hp}{xs:List V}{ds:List D}(h:dB K G xs ds)(gk:cp K G H)(hf:ds.all isInt=true):mP xs=true/\xs=ds.map gR:=by induction h with
|nil=>exact⟨rfl,rfl⟩
|@cons x d xs ds r t ih=>rw[Qba,M_]at hf;obtain⟨h1,h2⟩:=ih hf.2;cases d with
 |int i=>have e:=r.int gk;subst e;refine⟨?_,by rw[o_,<-h2];rfl⟩;show mP _=true;unfold mP at h1 ⊢;rw[Qba,h1];rfl
 |_=>exact absurd hf.1 d_
def remD:D->List D->Option D
|.lst ds,[.int k]=>if ds.all isInt=true then(mC (.int k) ds).map fun j=>.lst (ds.eraseIdx j)else none
|_,_=>none
theorem AR{K:W.Frag}:iu K Fw remD:=by
 intro G H a d vs ds d' Q gk ow rs e q;unfold remD at e;split at e
 .split at e
  .rename_i zs k hall;cases ef:mC (.int k) zs with
  |none=>rw[ef]at e;cases e
  |some j=>rw[ef]at e;cases e;cases ow.ob with
   |lst r s=>cases rs with
    |cons r1 t=>cases t;obtain⟨h1,h2⟩:=Np s gk hall;refine⟨a,_,k,j,rfl,by rw[r1.int gk],r,h1,?_,q _ (.lst cV (Paired.er j s))⟩;rw[h2];exact(IJ (.int k) zs).trans ef
  .cases e
 .cases e
def qQ(kvs more:List (bJ×D)):List (bJ×D):=more.foldl (fun acc kv=>dQ acc kv.1 kv.2) kvs
theorem Ov{K:W.Frag}{G:GH}{more:List (bJ×V)}{U:List (bJ×D)}{ps:List (bJ×V)}{kvs:List (bJ×D)}(hm:fj K G more U)(h:fj K G ps kvs):fj K G (mU ps more) (qQ kvs U):=by induction hm generalizing ps kvs with
|nil=>exact h
|@cons p q m md r t ih=>have e:p.1=q.1:=r.1;show fj K G (mU (dC ps p.1 p.2) _) (qQ (dQ kvs q.1 q.2) _);rw[e];exact ih (Fu h r.2)
def Hn:V->List V->Hp->VK->Prop:=fun x vs H Q=>∃d o kvs more,x=.ref d/\vs=[.ref o]/\d≠o/\H d=some (.dK kvs)/\Rd H o (.dK more)/\kvs.length+more.length<=sizeLine/\Q .non (aY H d (.dK (mU kvs more)))
theorem Ca:lj X "dict.update" Hn:=by
 intro pz s σ H x vs v us Q I rx rv h;obtain⟨d,o,kvs,more,rfl,rfl,hne,hd,ho,hz,q⟩:=h;cases rx;obtain⟨u,rfl,ru⟩:=jp rv;cases ru;obtain⟨z1,IO,Id,r1,U⟩:=(show cY X.prog X.w H s.heap d (.dK kvs)from I.hok d _ hd)
 obtain⟨z2,BT,Cl,r2,Z⟩:=(show cY X.prog X.w H s.heap o (.dK more)from ho.ok I.hok)
 have l1:=Paired.length r1;have l2:=Paired.length r2;refine call_meetsIn Qbw U.typeIs PySem.F.entry_dict_update (PySem.F.args_dict_update_2 _ _) (meets_dict_update (gO X.prog X.w) d o hne BT) ⟨Id,Cl,U,Z,by omega,fun h' Y KK hs=>?_⟩;have hlen:(mU kvs more).length<=sizeLine:=L_ (KO more kvs) hz;refine⟨.non,_,I.write (t':=s.toks) (x:=d) (e:=d) (by rw[hd];exact trivial) (.inl rfl) (fun b u hb hu=>(hs.2 b hb).trans hu) (let⟨ob,_,_,e,_⟩:=Y;⟨ob,e⟩) (show cY X.prog X.w _ h' d (.dK (mU kvs more))from⟨hlen,IO,_,KV.merge r2 r1,Y⟩),rfl,q⟩
def updD:D->List D->Option D
|.dic kvs,[.dic more]=>if kvs.length+more.length<=sizeLine then some (.dic (qQ kvs more))else none
|_,_=>none
theorem A1{K:W.Frag}:iu K Hn updD:=by
 intro G H a d vs ds d' Q gk ow rs e q;unfold updD at e;split at e
 .split at e
  .rename_i kvs more hl;cases e;cases ow.ob with
  |dic r s=>cases rs with
   |cons r1 t=>
     cases t;have hb:∃b ps,_=V.ref b/\Rd H b (.dK ps)/\fj K G ps more:=r1.dic gk;obtain⟨b,ps,rfl,hb,rb⟩:=hb;have U:a≠b:=by
      rintro rfl
      cases r1 with
     |scl s=>cases s
     |ref z=>rw[ow.un]at z;cases z
     |kc k=>cases k
     have l1:=Paired.length s;have l2:=Paired.length rb;exact⟨a,b,_,ps,rfl,rfl,U,r,hb,by omega,q _ (.dic cV (Ov rb s))⟩
  .cases e
 .cases e
def VW:V->List V->Hp->VK->Prop:=fun x vs H Q=>∃d kvs,x=.ref d/\vs=[]/\Rd H d (.dK kvs)/\∀p,H p=none->Q (.ref p) (aY H p (.ext fun h=>h.IsValuesView p d))
theorem Tf:lj X "dict.values" VW:=by
 intro pz s σ H x vs v us Q I rx rv h;obtain⟨d,kvs,rfl,rfl,hd,q⟩:=h;cases rx;cases rv;obtain⟨z1,Z,Y,r1,U⟩:=(show cY X.prog X.w H s.heap d (.dK kvs)from hd.ok I.hok)
 refine call_meetsIn Qdx U.typeIs PySem.F.entry_dict_values (PySem.F.args_dict_values_1 _) (meets_dict_values (gO X.prog X.w) d Z) ⟨⟨Y,U⟩,?_⟩;refine⟨.ref s.heap.objs.size,_,I.laid (t':=s.toks) (o:=.ext fun h=>h.IsValuesView s.heap.objs.size d) (fun b ob e=>i_ _ e) (r_ _) ?_,rfl,q _ (I.hok.fresh (r_ _))⟩;refine⟨⟨_,B_ _ rfl,rfl,rfl⟩,⟨_,B_ _ rfl⟩,fun h1 h2 hv hk=>?_⟩;obtain⟨ob,e,c⟩:=hv;exact⟨ob,hk ob e,c⟩
theorem U3(hc:X.calm=true):gL X (.type "list") (fun xs H Q=>∃p d kvs,xs=[.ref p]/\H p=some (.ext fun h=>h.IsValuesView p d)/\Rd H d (.dK kvs)/\∀l,H l=none->Q (.ref l) (aY H l (.lst (kvs.map (·.2))))):=by
 intro pz s σ H xs us Q I r h;obtain⟨p,d,kvs,rfl,hp,hd,q⟩:=h;obtain⟨u,rfl,rx⟩:=jp r;cases rx;obtain⟨hv,_,_⟩:=(show cY X.prog X.w H s.heap p (.ext fun h=>h.IsValuesView p d)from I.hok p _ hp)
 obtain⟨z1,IO,Cl,r1,Z⟩:=(show cY X.prog X.w H s.heap d (.dK kvs)from hd.ok I.hok)
 obtain⟨ep,BT⟩:=Z.dictAt;have l1:=Paired.length r1;refine W.kdl_call (W.kdl_values (knd:=gO X.prog X.w) (kvs:=Cl) (ep:=ep)) (I.ok.hd hc) ⟨hv,BT⟩ (by omega) fun h' tk acc c' kp hS U=>?_;have Y:aP (kvs.map (·.2)) acc.toList:=by refine Du (by have h1:=U.1;have h2:acc.toList.length=acc.size:=Qbz;rw[l_];omega) fun j v u e1 e2=>?_;obtain⟨k,hk⟩:=U.2 j u (by rw[<-QbR];exact e2);rw[u_]at e1;cases e3:kvs[j]? with
 |none=>rw[e3]at e1;cases e1
 |some kv=>rw[e3]at e1;cases e1;obtain⟨Id,e4,e5⟩:=Paired.get r1 hk;rw[e3]at e4;cases e4;exact e5.2
 refine⟨.ref s.heap.objs.size,_,I.laid (t':=tk) kp (r_ _) (show cY X.prog X.w _ h' _ (.lst (kvs.map (·.2)))from⟨by rw[l_];exact z1,acc.toList,c',Y,by rw[Qec];exact hS⟩),rfl,q _ (I.hok.fresh (r_ _))⟩
def AD:D->Option D
|.dic kvs=>some (.lst (kvs.map (·.2)))
|_=>none
theorem F8{K:W.Frag}{G:GH}:∀{ps:List (bJ×V)}{kvs:List (bJ×D)},fj K G ps kvs->dB K G (ps.map (·.2)) (kvs.map (·.2))
|_,_,.nil=>.nil
|_,_,.cons r t=>.cons r.2 (F8 t)
theorem Nh(hc:X.calm=true)(hg:Gl X "list")(hm:X.mg "list" = none)(ho:SB X g m o fo)(Y:Qa9 o "values" X.env (eval o X.env)=eval o X.env:=by rfl)(U:(apos.endLine==cpos.line)=true:=by rfl)(Z:h_ [.Call (.Attribute o "values" apos) [] [] cpos] X.env=(false,eval (.Call (.Attribute o "values" apos) [] [] cpos) X.env)::h_ [] X.env:=by rfl):SO X g m (.Call (.Name "list" pos') [.Call (.Attribute o "values" apos) [] [] cpos] [] pos) (f1 fo AD):=by
 refine PE.imp (pS (U3 hc) hg hm rfl (jt (Gn QbF Qdx PySem.F.type_dict_values Tf ho Y U) lB Z) (by decide) (by decide) Z rfl) fun σ H Q ⟨r,G,si,q⟩=>⟨r,G,si,cJ (cN q) fun d q1 v G1 H1 w1 r1=>?_⟩
 obtain⟨d',e,q2⟩:=dU q1;cases d with
|dic kvs=>
  cases e;obtain⟨a,ps,rfl,hs,rs⟩:=r1.dic w1.ok;refine⟨.inr (.inr (.inl ⟨rfl,.inl ⟨ps,hs⟩⟩)),a,ps,rfl,rfl,hs,fun p hp=>⟨p,a,ps,rfl,cV,?_,fun l hl=>?_⟩⟩
  .exact Rd.mono hs fun a o e=>A0 hp _ _ e
  .obtain⟨hl1,hl2⟩:=Gb hl;have w2:=Grow.new w1.ok hp (.ext fun h=>h.IsValuesView p a);have w3:=Grow.new w2.ok hl (.lst (ps.map (·.2)));exact q2 l G1 _ (w1.trans (w2.trans w3)) (w1.back hl1) ⟨w1.ok.isN hl1,.lst cV (F8 rs)⟩
|_=>cases e
end
def eu:Nat->List D->List D
|_,[]=>[]
|i,d::ds=>.tup [.int i,d]::eu (i+1) ds
theorem BU:∀(i:Nat)(ds:List D),(eu i ds).length=ds.length
|_,[]=>rfl
|i,d::ds=>congrArg (· + 1) (BU (i+1) ds)
theorem IE:∀(i j:Nat)(ds:List D),(eu i ds)[j]? = (ds[j]?).map fun d=>D.tup [.int ((i+j:Nat):Int),d]
|_,_,[]=>by simp[eu]
|i,0,d::ds=>by simp[eu]
|i,j+1,d::ds=>by show(eu (i+1) ds)[j]? = _;rw[IE (i+1) j ds];simp only[List.getElem?_cons_succ];rw[show i+1+j=i+(j+1)by omega]
def tw(f:FE):FI:=fun r=>(f r).bind fun d=>(fA (dy d)).bind fun ds=>.ok (eu 0 ds)
section
variable{elts:List Expr}{kk:Nat}
theorem PF{te:TE}(hg:Gl X "enumerate")(hm:X.mg "enumerate" = none)(he:PE X e te)(hs:h_ [e] X.env=(false,eval e X.env)::h_ [] X.env:=by rfl):PI X (.Tuple elts kk pos2) (.Call (.Name "enumerate" p) [e] [] pos) (fun σ H R=>te σ H fun x H1=>(∃a,x=.ref a/\(∃xs,cX X.K H1 a xs)/\R (qk fun H xs=>cX X.K H a xs) H1)\/∃a,x=.ref a/\(∃xs,dG X.K H1 a xs)/\R (qk fun H xs=>dG X.K H a xs) H1):=by
 intro pz s σ H R I h;refine Call_ (qO I hg hm boot_enumerate (QbS (bR (jt he lB hs pos pz s σ H (fun vs H1=>match vs with
 |[x]=>(∃a,x=.ref a/\(∃xs,cX X.K H1 a xs)/\R (qk fun H xs=>cX X.K H a xs) H1)\/∃a,x=.ref a/\(∃xs,dG X.K H1 a xs)/\R (qk fun H xs=>dG X.K H a xs) H1
 |_=>False) I h) fun us s1 ⟨vs,H1,I1,r1,q1⟩=>?_) hs rfl))
 .cases r1 with
 |nil=>exact q1.elim
 |@cons x u xs us rx rt=>cases rt with
 |cons _ _=>exact q1.elim
 |nil=>
  have fin:∀{h':Heap},h'.objs.size=s1.heap.objs.size+2->(∀b o,s1.heap.get? b=some o->h'.get? b=some o)->∀b∈[s1.heap.objs.size+1,s1.heap.objs.size],eY X pz H1 b:=fun hz kp b hb=>by
   have U:s1.heap.objs.size<=b:=by
    rcases t_.mp hb with rfl|hb
    .exact QcU _
    .rw[Qbf.mp hb];exact r_ _
   exact I1.fpOk U (I1.hok.fresh U)
  rcases q1 with⟨a,rfl,⟨xs,hq⟩,q⟩|⟨a,rfl,⟨xs,hq⟩,q⟩
  .cases rx;obtain⟨its,rv,pl,hz⟩:=I1.list hq;refine call_enumerate_list pl.isList fun h' he hi hsz kp=>Qds he ?_;exact⟨_,[s1.heap.objs.size+1,s1.heap.objs.size],_,_,H1,rfl,I1.kept (t':=s1.toks) kp,JB (t:=false) a _ _ (QbI (Qa1 _)) (S_ (wK (t:=false) I1 hq)) (QbI (QcF (wK (t:=false) I1 hq))),⟨⟨_,he⟩,hi⟩,fin hsz kp,q⟩
  .cases rx;obtain⟨its,rv,pl,hz⟩:=I1.tuple hq;refine Vj (show s1.heap.IsTuple a its.toArray from pl) fun h' he hi hsz kp=>Qds he ?_;exact⟨_,[s1.heap.objs.size+1,s1.heap.objs.size],_,_,H1,rfl,I1.kept (t':=s1.toks) kp,JB (t:=true) a _ _ (QbI (Qa1 _)) (S_ (wK (t:=true) I1 hq)) (QbI (QcF (wK (t:=true) I1 hq))),⟨⟨_,he⟩,hi⟩,fin hsz kp,q⟩
end
theorem GP:∀a b:List Int,HT.dq a b=kC a b
|[],[]=>rfl
|[],_::_=>rfl
|_::_,[]=>rfl
|x::xs,y::ys=>by rw[HT.fX,kC,GP xs ys]
inductive TupI(h:Heap):a_->List Int->Prop where
 |mk {a:Addr} {items:Array a_} {ns:List Int}:Qfd h a items->Qcl items.toList ns->TupI h (.ref a) ns
theorem UB:∀(xs ys:List Int),((e_ (min xs.length ys.length)).all (fun j=>decide (xs.getD j 0=ys.getD j 0))&&xs.length==ys.length)=decide (xs=ys):=by
 intro xs ys;rw[T_,M_,Qbb,beq_iff_eq,decide_eq_true_iff];constructor
 .rintro⟨h1,h2⟩
  refine Qe6 h2 fun i a b=>?_;have:=h1 i (z_.mpr (by omega));simp only[decide_eq_true_eq]at this;simpa[y_,a,b]using this
 .rintro rfl
  exact⟨fun i _=>by simp,rfl⟩
theorem Pz{A:Qag}{s:c_}{p q:a_}{k l:List Int}(hp:TupI s.heap p k)(hq:TupI s.heap q l)(hu:A.units<Qbx):Qes A s p q (decide (k=l)):=by cases hp with
|@mk a ia _ ha ia'=>cases hq with
 |@mk b ib _ hb ib'=>
   by_cases e:a=b
   .subst e;obtain⟨o,h1,h2,n,h3⟩:=ha;obtain⟨o',U,Y,n',h3'⟩:=hb;rw[h1]at U;cases U;rw[h3]at h3';cases h3';have:k=l:=by have z1:=ia';have z2:=ib';exact(Qf7 z1).symm.trans (Qf7 z2)
    subst this;rw[decide_eq_true rfl];exact Qfj _
   .have l1:=ia'.length;have l2:=ib'.length;rw[Qbz]at l1 l2;have key:=SeqAt.RcAt.tuples (A:=A) (s:=s) (e:=fun j=>decide (k.getD j 0=l.getD j 0)) (show s.heap.IsTuple a ia from ha) (show s.heap.IsTuple b ib from hb) hu (fun j h1 h2=>by
     obtain⟨t,e1⟩:=QfG ia' j ia[j] (by rw[QbR];simp[h1]);obtain⟨t',e2⟩:=QfG ib' j ib[j] (by rw[QbR];simp[h2]);rw[e1,e2];have:=Qdg (A:=A.in1) (s:=s) (k.getD j 0) t (l.getD j 0) t';have e:(k.getD j 0==l.getD j 0)=decide (k.getD j 0=l.getD j 0):=by rw[T_];simp
     rw[e]at this;exact this)
    rw[l1,l2,UB]at key;exact SeqAt.EqAt.of_refs e key
inductive TupsI(h:Heap):List a_->List (List Int)->Prop where
 |nil:TupsI h [] []
 |cons {p:a_} {k:List Int} {ps:List a_} {ks:List (List Int)}:TupI h p k->TupsI h ps ks->TupsI h (p::ps) (k::ks)
theorem TupsI.length{h:Heap}:∀{ps:List a_}{ks:List (List Int)},TupsI h ps ks->ps.length=ks.length
|_,_,.nil=>rfl
|_,_,.cons _ t=>congrArg (· + 1) t.length
variable{s:c_}
section
variable{prog:H_}{A:Qag}
theorem M6{fin:Bool}{Q:Bool->c_->Prop}(hu:A.units<Qbx){ps qs:List a_}{ks ls:List (List Int)}{i:Nat}(h1:TupsI s.heap ps ks)(h2:TupsI s.heap qs ls)(h:Q (jD fin ks ls) s):W.KatLex prog w A false fin Q (ps.zip qs) i s:=by induction h1 generalizing qs ls i with
|nil=>cases h2 <;> exact W.kat_nil h
|@cons p k ps ks hp tp ih=>cases h2 with
 |nil=>exact W.kat_nil h
 |@cons q l qs ls hq tq=>
   refine W.kat_cons (Pz hp hq hu prog w _ _ ?_);by_cases e:k=l
   .rw[decide_eq_true e];have h':Q (jD fin ks ls) s:=by unfold jD at h;rw[if_pos e]at h;exact h
    exact W.kat_yes (ih tq h')
   .rw[decide_eq_false e];have h':Q (kC k l) s:=by unfold jD at h;rw[if_neg e]at h;exact h
    refine W.kat_no ?_;rw[Qfu];refine W.kat_one _ _ ?_;cases hp with
   |mk ha ia=>cases hq with
    |mk hb ib=>refine HT.iW ha hb ia ib hu ?_;rw[GP];exact h'
inductive TupR(h:Heap):a_->List (List Int)->Prop where
 |mk {a:Addr} {items:List a_} {ks:List (List Int)}:Qfd h a items.toArray->TupsI h items ks->ks≠[]->TupR h (.ref a) ks
theorem PY{p q:a_}{ks ls:List (List Int)}{Q:Bool->c_->Prop}{E:a_->c_->Prop}(hp:TupR s.heap p ks)(hq:TupR s.heap q ls)(hu:A.units<Qbx)(h:Q (gB ks ls) s):x_ (E_ prog w) A (keyLt' (tuples' false) p q) Q E s:=by cases hp with
|@mk _ items _ ha ta hna=>cases hq with
 |@mk _ items_1 _ hb tb hnb=>
   obtain⟨o,h1,h2,n,h3⟩:=ha;obtain⟨o',U,Y,n',h3'⟩:=hb;refine W.kat_lt h1 h3 U h3' ?_;have e:decide (items.toArray.size<items_1.toArray.size)=decide (ks.length<ls.length):=by rw[q_,q_,ta.length,tb.length]
   rw[e];exact M6 hu (by simpa using ta) (by simpa using tb) h
end
def qS:List D->Option (List Int)
|[]=>some []
|.int i::ds=>(qS ds).map (i::·)
|_=>none
theorem Rj{K:W.Frag}{G:GH}{H:Hp}(gk:cp K G H){ds:List D}{xs:List V}{ns:List Int}(h:dB K G xs ds)(e:qS ds=some ns):xs=ns.map V.int:=by induction h generalizing ns with
|nil=>cases e;rfl
|@cons x d xs ds r t ih=>cases d with
 |int i=>have e':(qS ds).map (i::·)=some ns:=e;cases q:qS ds with
  |none=>rw[q]at e';cases e'
  |some ms=>rw[q]at e';cases e';rw[r.int gk,ih q];rfl
 |_=>cases e
def tJ(K:W.Frag)(H:Hp)(x:V)(k:List Int):Prop:=∃b,x=.ref b/\dG K H b (k.map V.int)
def qj(K:W.Frag)(H:Hp)(x:V)(ks:List (List Int)):Prop:=∃b xs,x=.ref b/\dG K H b xs/\Paired (tJ K H) xs ks/\ks≠[]
def mJ{α:Type}(d:α)(ys:List α)(kss:List (List (List Int))):List α:=(kN ys.length fun i j=>gB (kss.getD i []) (kss.getD j [])).map fun i=>ys.getD i d
theorem cY.isS{P:H_}{w:Z_}{H:Hp}{h:Heap}{a:Addr}{o:HO}(x:cY P w H h a o):h.get? a≠none:=by
 have s:∀{u:Obj},h.get? a=some u->h.get? a≠none:=fun e z=>by rw[z]at e;cases e
 cases o with
|lst xs=>obtain⟨_,_,_,_,e⟩:=x;exact s e
|tup xs=>obtain⟨_,_,_,⟨_,e,_⟩,_⟩:=x;exact s e
|dK kvs=>obtain⟨_,_,_,_,o,_,_,e,_⟩:=x;exact s e
|dT kvs=>obtain⟨_,_,_,_,o,_,_,e,_⟩:=x;exact s e
|set S n=>obtain⟨o,_,_,_,e,_⟩:=x;exact s e
|ins C dx fs=>obtain⟨_,_,_,e,_⟩:=x;exact s e
|own y=>obtain⟨_,e⟩:=x;exact s e
|xd fs=>obtain⟨_,⟨_,_,_,e,_⟩,_⟩:=x;exact s e
|rng lo hi=>obtain⟨_,_,_,e⟩:=x;exact s e
|frz ob u=>obtain⟨e,_⟩:=x;exact s e
|tbl ps=>exact s (show h.get? a=some _ from x)
|met f y=>exact s (show h.get? a=some _ from x)
|ext φ=>obtain⟨_,⟨_,e⟩,_⟩:=x;exact s e
variable{H:Hp}
section
variable{pz:List (Addr×Obj)}{σ:L2.St}
theorem TupI.stay{h h':Heap}{L:Addr}{mm:Str->Option a_}(hL:h.Ns L mm)(k:∀b o,b≠L->h.get? b=some o->h'.get? b=some o){p:a_}{ns:List Int}(x:TupI h p ns):TupI h' p ns:=by cases x with
|mk ht hi=>
  obtain⟨o,h1,h2,n,h3⟩:=ht;refine .mk ⟨o,k _ _ ?_ h1,h2,n,h3⟩ hi
  rintro rfl
  obtain⟨o',es,ep,e,d,_⟩:=hL;rw[h1]at e;cases e;rw[h3]at d;cases d
theorem TupsI.stay{h h':Heap}{L:Addr}{mm:Str->Option a_}(hL:h.Ns L mm)(k:∀b o,b≠L->h.get? b=some o->h'.get? b=some o):∀{ps:List a_}{ks:List (List Int)},TupsI h ps ks->TupsI h' ps ks
|_,_,.nil=>.nil
|_,_,.cons x t=>.cons (x.stay hL k) (t.stay hL k)
theorem TupR.stay{h h':Heap}{L:Addr}{mm:Str->Option a_}(hL:h.Ns L mm)(k:∀b o,b≠L->h.get? b=some o->h'.get? b=some o){p:a_}{ks:List (List Int)}(x:TupR h p ks):TupR h' p ks:=by cases x with
|mk ht hi hn=>
  obtain⟨o,h1,h2,n,h3⟩:=ht;refine .mk ⟨o,k _ _ ?_ h1,h2,n,h3⟩ (hi.stay hL k) hn
  rintro rfl
  obtain⟨o',es,ep,e,d,_⟩:=hL;rw[h1]at e;cases e;rw[h3]at d;cases d
theorem PB(I:Inv X pz σ H s){x:V}{k:List Int}{u:a_}(h:tJ X.K H x k)(r:L2.bH x u):TupI s.heap u k:=by obtain⟨b,rfl,hq⟩:=h;cases r;obtain⟨its,rv,pl,_⟩:=I.tuple hq;exact .mk pl (by simpa using To rv)
theorem R6(I:Inv X pz σ H s){xs:List V}{ks:List (List Int)}{us:List a_}(h:Paired (tJ X.K H) xs ks)(v:aP xs us):TupsI s.heap us ks:=by induction h generalizing us with
|nil=>cases v;exact .nil
|cons h _ ih=>cases v with
 |cons r q=>exact .cons (PB I h r) (ih q)
theorem PC(I:Inv X pz σ H s){x:V}{ks:List (List Int)}{u:a_}(h:qj X.K H x ks)(r:L2.bH x u):TupR s.heap u ks:=by obtain⟨b,xs,rfl,hq,hp,hn⟩:=h;cases r;obtain⟨its,rv,pl,_⟩:=I.tuple hq;exact .mk pl (R6 I hp rv) hn
theorem Jw{ys:List V}{us:List a_}(r:aP ys us):∀(ix:List Nat),(∀i∈ix,i<ys.length)->aP (ix.map fun i=>ys.getD i .non) (ix.map fun i=>us.getD i Value.none)
|[],_=>.nil
|i::ix,h=>by
  refine .cons ?_ (Jw r ix fun j hj=>h j (k_ _ hj));have hi:=h i j_;obtain⟨u,h1,h2⟩:=r.get (i:=i) (x:=ys[i]) (f_ hi);have e1:ys.getD i .non=ys[i]:=by simp[y_,hi]
  have e2:us.getD i Value.none=u:=by rw[y_,h1];rfl
  show L2.bH (ys.getD i .non) (us.getD i Value.none);rw[e1,e2];exact h2
theorem Inv.laidN{D:Addr}{ys:List V}{its:List a_}{c:Nat}{h':Heap}(I:Inv X pz σ H s)(hD:s.heap.get? D=none)(Cl:D≠X.env.locals)(k:∀b o,b≠X.env.locals->s.heap.get? b=some o->h'.get? b=some o)(Z:∀m,s.heap.Ns X.env.locals m->h'.Ns X.env.locals m)(ho:h'.get? D=some { cls:=.type "list",data:=.seq its.toArray c })(rv:aP ys its)(hz:ys.length<=sizeLine)(t':Nat):Inv X pz σ (aY H D (.lst ys)) { s with heap:=h',toks:=t' }:=by
 have BT:H D=none:=by cases q:H D with
 |none=>rfl
 |some u=>exact absurd hD (cY.isS (I.hok D u q))
 have neD:∀b o,s.heap.get? b=some o->b≠D:=fun b o e z=>by rw[z,hD]at e;cases e
 have U:∀b u,H b=some u->aY H D (.lst ys) b=some u:=fun b u e=>by rw[bT (ng e BT)];exact e
 have Y:∀b u,H b=some u->b≠X.env.locals:=fun b u e z=>by rw[z,I.free]at e;cases e
 refine I.step (g':=s.gens) (d':=s.drawn) (ch:=[]) (fun b hb=>absurd hb (by simp)) (fun b ob hL _ _ e _=>k b ob hL e) (fun b ob hL _ _ e _=>⟨ob.slots,k b ob hL e⟩) (fun b ob _ e n=>by rw[bT (neD b ob e)];exact n)
  (fun b ob _ e=>?_) (fun b xs e=>U b _ e) (fun b ob u e=>U b _ e) (fun b ps e=>⟨#[],by rw[U b _ e];simp⟩) Z (fun b u e=>?_) I.bare
 .by_cases hb:b=X.env.locals
  .subst hb;obtain⟨m,hn,_⟩:=I.loc;obtain⟨o,_,_,ho',_⟩:=Z m hn;exact⟨o,ho'⟩
  .exact⟨ob,k b ob hb e⟩
 .by_cases hb:b=D
  .subst hb;rw[cV]at e;cases e;exact⟨hz,its,c,rv,ho⟩
  .rw[bT hb]at e;refine(I.hok b u e).stay (fun cc v hc q=>k cc v ?_ q) (fun cc q=>U cc _ q) fun cc xs q=>U cc _ q;rcases hc with z|z
   .rw[z];exact Y b u e
   .exact Y cc _ z
theorem Oy{h:Heap}{L:Addr}{m m':Str->Option a_}(a:h.Ns L m)(b:h.Ns L m'):m=m':=by obtain⟨o,es,ep,e,d,_,f⟩:=a;obtain⟨o',es',U,e',d',_,f'⟩:=b;rw[e]at e';cases e';rw[d]at d';cases d';funext x;rw[<-f,<-f']
theorem HZ{h:Heap}:∀{us:List a_}{kss:List (List (List Int))},Paired (fun u ks=>TupR h u ks) us kss->∃fs,W.KatTups h us fs/\fs.length=us.length/\∀f∈fs,∃b o,f=Value.ref b/\h.get? b=some o/\o.cls=.type "tuple"
|_,_,.nil=>⟨[],W.KatTups.nil,rfl,fun f hf=>nomatch hf⟩
|_,_,.cons x t=>by obtain⟨fs,h1,h2,h3⟩:=HZ t;cases x with
 |@mk a items ks ht hi hn=>cases hi with
  |nil=>exact absurd rfl hn
  |@cons p k ps ks hp _=>
    obtain⟨o,e1,e2,n,e3⟩:=ht;refine⟨p::fs,W.KatTups.cons e1 e2 e3 (by simp) h1,by simp[h2],fun f hf=>?_⟩;rcases t_.mp hf with rfl|hf
    .cases hp with
    |mk hb _=>obtain⟨ob,q1,q2,_⟩:=hb;exact⟨_,ob,rfl,q1,q2⟩
    .exact h3 f hf
theorem R5(I:Inv X pz σ H s){ys:List V}{kss:List (List (List Int))}{us:List a_}(h:Paired (qj X.K H) ys kss)(v:aP ys us):Paired (fun u ks=>TupR s.heap u ks) us kss:=by induction h generalizing us with
|nil=>cases v;exact .nil
|cons h _ ih=>cases v with
 |cons r q=>exact .cons (PC I h r) (ih q)
theorem Cc{n:Nat}{c:Nat->Nat->Bool}{i:Nat}(h:i∈kN n c):i<n:=z_.mp ((CN n c).mem_iff.mp h)
theorem UC{k:Nat}(hr:Room k X.A):gL X (.builtin "sorted") (fun xs H Q=>∃p ys kss,xs=[.ref p]/\cX X.K H p ys/\Paired (qj X.K H) ys kss/\ys.length<64/\∀l,H l=none->Q (.ref l) (aY H l (.lst (mJ .non ys kss)))):=by
 intro pz s σ H xs us Q I r h;obtain⟨p,ys,kss,rfl,hq,hk,KK,q⟩:=h;obtain⟨u,rfl,rx⟩:=jp r;cases rx;obtain⟨its,rv,pl,hz⟩:=I.list hq;have hl:=rv.length;have IO:=Paired.length hk;by_cases h2:its.length<2
 .refine UV pl.isList h2 fun h' c D kp hD ho=>?_;have hs:s.heap.get? D=none:=Qbp hD;refine⟨.ref D,_,Inv.laidN I hs (QbI (G_ I.lt hD)) (fun b o _ e=>kp b o e) (fun m ⟨o,es,ep,e,z⟩=>⟨o,es,ep,kp _ _ e,z⟩) ho rv (by omega) s.toks,rfl,?_⟩;have e:mJ V.non ys kss=ys:=by unfold mJ kN;rw[if_pos (by omega)];refine Qe6 (by simp) fun i a b=>?_;simp[y_,b]
  have:=q D (I.hok.fresh hD);rw[e]at this;exact this
 .obtain⟨mF,F⟩:=I.fr;have Id:=R5 I hk rv;refine W.kat_sorted F (Qw (g:=X.base) (h:=s.heap) (L:=X.env.locals)) pl.isList (by omega) (by omega) fun D e1 h' F' N' hlt=>?_;have BT:s.heap.get? D=none:=by cases z:s.heap.get? D with
  |none=>rfl
  |some o=>have zn:=(N' _ (j_)).2;exact absurd (hlt (D,o) (Ka zn.1 zn.2 z)) (QaB _)
  have U:∀{h2:Heap}{oD:Obj},Fr X.base X.env.locals h2 mF->News X.base X.env.locals h2 ((D,oD)::rj X.base s.heap X.env.locals)->∀b o,b≠X.env.locals->s.heap.get? b=some o->h2.get? b=some o:=fun{h2 oD} F2 N2 b o hb e=>by cases z:X.base.get? b with
  |some o'=>have:=I.bk b o' z;rw[e]at this;cases this;exact F2.keep b o z
  |none=>exact(N2 (b,o) (k_ _ (Ka hb z e))).1
  have k1:=U F' N';have Y:Paired (fun u ks=>TupR h' u ks) its kss:=Paired.mono (fun _ _ x=>x.stay F.ns k1) Id;obtain⟨fs,t1,t2,t3⟩:=HZ Y;refine W.kat_kind (T:=.type "tuple") t1 (by omega) (fun v hv=>?_) (by decide) ?_
  .obtain⟨b,o,rfl,e1,e2⟩:=t3 v hv;rw[<-e2];exact(W.Looks.ld e1).andThen .now
  have hn:0<its.length:=by omega
  refine Sh (n:=its.length) (c:=fun i j=>gB (kss.getD i []) (kss.getD j [])) (fun i j C hi hj hC=>?_) (Jd hn) ?_
  .have gi:∀i,i<its.length->TupR h' (its.getD i Value.none) (kss.getD i []):=fun i hi=>by
    have Z:i<kss.length:=by omega
    obtain⟨a,ha,hx⟩:=Paired.get Y (f_ Z);rw[y_,ha,y_,f_ Z];exact hx
   exact PY (gi i hi) (gi j hj) (by have:=hr.un;show X.A.units+1+1<Qbx;omega) hC
  .refine W.KasFin.intro F' N' (.head fun q hq z=>?_) fun h3 c F3 N3=>?_
   .have:=hlt q hq;rw[z]at this;exact QaB _ this
   .have oD:=(N3 _ j_)
    have Cl:∀i∈kN ys.length (fun i j=>gB (kss.getD i []) (kss.getD j [])),i<ys.length:=fun i hi=>Cc hi;have e0:(qM (fun i j=>gB (kss.getD i []) (kss.getD j [])) (W.kas_sort its.length)).toList=kN ys.length (fun i j=>gB (kss.getD i []) (kss.getD j [])):=by unfold kN;rw[if_neg (by omega),hl]
    rw[e0]at oD;refine⟨.ref D,_,Inv.laidN (t':=_) (its:=(kN ys.length fun i j=>gB (kss.getD i []) (kss.getD j [])).map fun i=>its.getD i Value.none) I BT oD.2.1 (U F3 N3) (fun m hm=>by rw[Oy hm F.ns];exact F3.ns) oD.1 (Jw rv _ Cl) ?_,rfl,q D ?_⟩
    .have:=(CN ys.length fun i j=>gB (kss.getD i []) (kss.getD j [])).length_eq;rw[l_,this,QaV];omega
    .cases z:H D with
    |none=>rfl
    |some u=>exact absurd BT (cY.isS (I.hok D u z))
end
def mQ:D->Option (List Int)
|.tup ds=>qS ds
|_=>none
def kP:List D->Option (List (List Int))
|[]=>some []
|d::ds=>(mQ d).bind fun k=>(kP ds).map (k::·)
def uK:D->Option (List (List Int))
|.tup (d::ds)=>kP (d::ds)
|_=>none
def mV:List D->Option (List (List (List Int)))
|[]=>some []
|d::ds=>(uK d).bind fun k=>(mV ds).map (k::·)
def uN:List D->Option D
|[.lst ds]=>(mV ds).bind fun kss=>if ds.length<64 then some (.lst (mJ .non ds kss))else none
|_=>none
section
variable{G:GH}
theorem NF(gk:cp K G H){v:V}{d:D}{k:List Int}(r:RG K G v d)(e:mQ d=some k):tJ K H v k:=by cases d with
|tup ds=>obtain⟨a,xs,rfl,s,rs⟩:=r.tup gk;have:=Rj gk rs e;subst this;exact⟨a,rfl,s⟩
|_=>cases e
theorem Pw(gk:cp K G H){ds:List D}{xs:List V}{ks:List (List Int)}(h:dB K G xs ds)(e:kP ds=some ks):Paired (tJ K H) xs ks:=by induction h generalizing ks with
|nil=>cases e;exact .nil
|@cons x d xs ds r t ih=>have e':(mQ d).bind (fun k=>(kP ds).map (k::·))=some ks:=e;cases e1:mQ d with
 |none=>rw[e1]at e';cases e'
 |some k=>rw[e1]at e';cases e2:kP ds with
  |none=>rw[e2]at e';cases e'
  |some ks'=>rw[e2]at e';cases e';exact .cons (NF gk r e1) (ih e2)
theorem R7{d:D}{ds:List D}{ks:List (List Int)}(e:kP (d::ds)=some ks):ks≠[]:=by have e':(mQ d).bind (fun k=>(kP ds).map (k::·))=some ks:=e;cases e1:mQ d with
|none=>rw[e1]at e';cases e'
|some k=>rw[e1]at e';cases e2:kP ds with
 |none=>rw[e2]at e';cases e'
 |some ks'=>rw[e2]at e';cases e';simp
theorem NG(gk:cp K G H){v:V}{d:D}{ks:List (List Int)}(r:RG K G v d)(e:uK d=some ks):qj K H v ks:=by cases d with
|tup ds=>cases ds with
 |nil=>cases e
 |cons d ds=>obtain⟨a,xs,rfl,s,rs⟩:=r.tup gk;exact⟨a,xs,rfl,s,Pw gk rs e,R7 e⟩
|_=>cases e
theorem Px(gk:cp K G H){ds:List D}{xs:List V}{ks:List (List (List Int))}(h:dB K G xs ds)(e:mV ds=some ks):Paired (qj K H) xs ks:=by induction h generalizing ks with
|nil=>cases e;exact .nil
|@cons x d xs ds r t ih=>have e':(uK d).bind (fun k=>(mV ds).map (k::·))=some ks:=e;cases e1:uK d with
 |none=>rw[e1]at e';cases e'
 |some k=>rw[e1]at e';cases e2:mV ds with
  |none=>rw[e2]at e';cases e'
  |some ks'=>rw[e2]at e';cases e';exact .cons (NG gk r e1) (ih e2)
theorem Ip{xs:List V}{ds:List D}(r:dB K G xs ds):∀(ix:List Nat),(∀i∈ix,i<ds.length)->dB K G (ix.map fun i=>xs.getD i .non) (ix.map fun i=>ds.getD i .non)
|[],_=>.nil
|i::ix,h=>by refine .cons ?_ (Ip r ix fun j hj=>h j (k_ _ hj));have hi:=h i j_;obtain⟨u,h1,h2⟩:=Paired.get r (f_ hi);show RG K G (xs.getD i .non) (ds.getD i .non);rw[y_,h1,y_,f_ hi];exact h2
end
section
variable{k:Nat}
theorem Qy(hr:Room k X.A)(hg:Gl X "sorted")(hm:X.mg "sorted" = none)(ha:j4 X g m [a] fl)(hs:h_ [a] X.env=(false,eval a X.env)::h_ [] X.env:=by rfl):SO X g m (.Call (.Name "sorted" p) [a] [] pos) (fC fl uN):=by
 refine Fs (R:=fun xs H Q=>∃p ys kss,xs=[.ref p]/\cX X.K H p ys/\Paired (qj X.K H) ys kss/\ys.length<64/\∀l,H l=none->Q (.ref l) (aY H l (.lst (mJ .non ys kss)))) ?_ (rJ (UC hr) hg hm (by first|exact PyProof.Rows.boot_sorted|rfl) ha (by decide) (by decide) hs rfl);intro G H vs ds d Q gk rs e q;unfold uN at e;split at e
 .rename_i zs;cases ek:mV zs with
 |none=>rw[ek]at e;cases e
 |some kss=>
   rw[ek]at e;have e':(if zs.length<64 then some (D.lst (mJ .non zs kss))else none)=some d:=e;by_cases Y:zs.length<64
   .rw[if_pos Y]at e';cases e';cases rs with
   |cons r1 t=>cases t;obtain⟨b,xs,rfl,s,r⟩:=r1.lst gk;have hl:=Paired.length r;refine⟨b,xs,kss,rfl,s,Px gk r ek,by omega,fun l U=>q l G _ (Grow.new gk U _) U ⟨gk.isN U,.lst cV ?_⟩⟩;unfold mJ;rw[hl];exact Ip r _ fun i hi=>Cc hi
   .rw[if_neg Y]at e';cases e'
 .cases e
end
end DL
namespace DL
open PySem PyProof.Rows PySem.SeqAt PySem.MeetsSeq PySem.MeetsSeq2 PySem.MeetsSeq3 L2
section
open PySem.AutoSeq1 (wpAny_loadPart')
end
end DL
namespace DL
open PySem PyProof.Rows L2
end DL
namespace DL
open PySem PySem.Spec PyProof.Rows L2
section
variable{X:Cx}{g:GE}{m:List Md}{e a b:Expr}{es:List Expr}{fl:aQ->Res (List D)}{fa fb:FE}{pos p:Pos}
def Fv(K:W.Frag):R2:=fun x y H Q=>∃a b ys,x=.ref a/\y=.ref b/\dG K H a []/\dG K H b ys/\Q (.ref b) H
theorem OP:cM X (Qbc .Add) (Fv X.K):=by
 intro pz s σ H x y v u Q I rx ry h;obtain⟨a,b,ys,rfl,rfl,ha,hb,q⟩:=h;cases rx;cases ry;obtain⟨its,r1,p1,_⟩:=I.tuple ha;obtain⟨Cl,r2,p2,_⟩:=I.tuple hb;cases r1;obtain⟨⟨cls,dd,data,sl⟩,ho,hc,n,hd⟩:=id p1;obtain⟨⟨Id,Y,BT,Z⟩,ho2,U,n2,hd2⟩:=id p2;simp only at hc hd U hd2;subst hc hd U hd2;exact QdM ⟨_,ho,rfl⟩ ⟨_,ho2,rfl⟩ QdD Qen QcC Qcu (Qcf _ _)
  (tuple_addW0 a b _ _ n n2 dd Y sl Z rfl) ⟨ho,ho2,⟨.ref b,H,I,rfl,q⟩⟩
def addE:D->D->Option D
|.tup [],.tup b=>some (.tup b)
|a,b=>addA a b
theorem Pe{K:W.Frag}:gb K (fun x y H Q=>Fv K x y H Q\/((∃i j,x=.int i/\y=.int j/\Q (.int (i+j)) H)\/(∃i j,x=.str i/\y=.str j/\i.length+j.length<=sizeLine/\Q (.str (i++j)) H)\/Az K x y H Q\/AA K x y H Q)) addE:=by
 intro G H v1 v2 d1 d2 d Q gk r1 r2 e q;unfold addE at e;split at e
 .cases e;rcases r1 with r1|⟨a',_,oo⟩
  .rcases r2 with r2|⟨a',_,oo⟩
   .obtain⟨a,xs,rfl,s1,t1⟩:=r1.tup gk;obtain⟨b,ys,rfl,s2,t2⟩:=r2.tup gk;cases t1;exact .inl ⟨a,b,ys,rfl,rfl,s1,s2,q _ G H (Grow.refl gk) r2⟩
   .cases oo.ob
  .cases oo.ob
 .exact .inr (GC G H v1 v2 d1 d2 d Q gk r1 r2 e q)
theorem FV(ha:SB X g m a fa)(hb:SB X g m b fb):SE X g m (.BinOp a .Add b pos) (f2 fa fb addE):=lq (cM.or OP (cM.or Gm (cM.or JY (cM.or Hy Hz)))) Pe ha hb
end
end DL
namespace DL
open PySem PyProof.Rows L2
section
open PySem.AutoSeq1 (wpAny_loadPart')
end
end DL
namespace DL
open PySem PyProof.Rows PySem.W
section
variable{n:Nat}{c:Nat->Nat->Bool}(as:∀i j,c i j=true->c j i=false)(tr:∀i j k,c j i=false->c k j=false->c k i=false)
include tr in
include as tr in
include tr in
include as tr in
include as tr in
include as tr in
include as tr in
include as tr in
include as tr in
include as tr in
include as tr in
include as tr in
end
end DL
section
namespace DL
end DL
end
namespace DL
open PySem PySem.Spec PyProof.Rows L2
def mH(h0 H:Hp):Prop:=∀a o,h0 a=some o->H a=some o
structure YieldsB(K:W.Frag)(h0:Hp)(J:It)(ds:List D)(G0:GH):Prop where
 go:∀G H (i:Nat),cF G0 G->cp K G H->mH h0 H->i<ds.length->J.go i H
 yld:∀G H (i:Nat) x H' d,cF G0 G->cp K G H->mH h0 H->J.yld i H x H'->ds[i]? = some d->∃G',Grow K G H G' H'/\RG K G' x d
 stop:∀G H,cF G0 G->cp K G H->mH h0 H->J.stop ds.length H
theorem Yields.toH{K:W.Frag}{h0:Hp}{J:It}{ds:List D}{G0:GH}(y:Yields K J ds G0):YieldsB K h0 J ds G0:=⟨fun G H i w gk _ hi=>y.go G H i w gk hi,fun G H i x H' d w gk _ q e=>y.yld G H i x H' d w gk q e,fun G H w gk _=>y.stop G H w gk⟩
def WN(X:Cx)(g:GE)(m:List Md)(f:FI):TI:=fun σ H R=>∃r G,SI X g m r G σ H/\fin (f r) (fun ds=>∀J G' H',Grow X.K G H G' H'->YieldsB X.K g.h0 J ds G'->R J H') (XW X σ G H)
def oY(X:Cx)(g:GE)(m:List Md)(tg iter:Expr)(f:FI):Prop:=PI X tg iter (WN X g m f)
def WP(X:Cx)(g:GE)(m:List Md)(f:FE):TE:=fun σ H Q=>∃r G,SI X g m r G σ H/\fin (f r) (fun d=>∀v G' H',Grow X.K G H G' H'->Bw X.K g.h0 G' H' v d->Q v H') (XW X σ G H)
def ER(X:Cx)(g:GE)(m:List Md)(e:Expr)(f:FE):Prop:=PE X e (WP X g m f)
variable{X:Cx}{g:GE}{m m' mb:List Md}{e a iter:Expr}{f:FE}{pos p:Pos}{ro:Bool}{sts:List Stmt}{s1:FS}
section
variable{tg:Expr}{pos2:Pos}{elts:List Expr}{kk:Nat}
theorem qa(i:Nat){x:Str}(hm:m[i]? = some .bw:=by rfl)(hN:X.N[i]? = some x:=by rfl)(hv:iY X.env.scope x:=by first|exact Or.inl rfl|exact Or.inr (Or.inl rfl)|exact Or.inr (Or.inr rfl))(hd:(x==("__debug__" : Str))=false:=by decide)(U:(x==("__classdict__" : Str))=false:=by decide):ER X g m (.Name x pos) fun r=>fZ r i:=by refine PE.imp (jR hN hv hd U) fun σ H Q ⟨r,G,si,q⟩=>?_;obtain⟨d,e,k⟩:=vV q;obtain⟨v,e1,e2⟩:=si.bw i d e hm;exact⟨v,e1,k _ G H (Grow.refl si.gok) e2⟩
theorem HE{K:W.Frag}{h0:Hp}{G0 G:GH}{H0 H:Hp}{a:Addr}{ds:List D}(o:Own K G0 H0 a (.lst ds))(h:h0 a≠none)(o0:mH h0 H0)(le:cF G0 G)(o1:mH h0 H):∃xs,cX K H a xs/\dB K G xs ds:=by cases e:h0 a with
|none=>exact absurd e h
|some u=>have h1:=o0 a u e;have h2:=o1 a u e;cases o.ob with
 |lst r s=>rw[h1]at r;cases r;exact⟨_,cX.of h2,dB.mono s le⟩
theorem NP{K:W.Frag}{h0:Hp}{ds:List D}{G0:GH}{a:Addr}(h:∀G H,cF G0 G->cp K G H->mH h0 H->∃xs,cX K H a xs/\dB K G xs ds):YieldsB K h0 (tR K a) ds G0:=by
 refine⟨fun G H i w gk o hi=>?_,fun G H i x H' d w gk o y e=>?_,fun G H w gk o=>?_⟩
 .obtain⟨xs,s,r⟩:=h G H w gk o;have hl:=Paired.length r;exact⟨xs,xs[i],s,f_ (by omega)⟩
 .obtain⟨xs,s,r⟩:=h G H w gk o;obtain⟨rfl,y⟩:=y;obtain⟨v,e1,rv⟩:=Paired.get r e;have:=y xs s;rw[e1]at this;cases this;exact⟨G,Grow.refl gk,rv⟩
 .obtain⟨xs,s,r⟩:=h G H w gk o;exact⟨xs,s,QcA (Paired.length r)⟩
theorem SI.oldIn{r:aQ}{G:GH}{st:L2.St}{H:Hp}(s:SI X g m r G st H):mH g.h0 H:=s.old
theorem q8(h:ER X g m e f):oY X g m tg e (bP dy f):=by
 refine PI.imp (AU h) fun σ H R ⟨r,G,si,q⟩=>⟨r,G,si,cJ (cN q) fun d q v G' H' w rv=>?_⟩
 obtain⟨ds,e,q⟩:=dU q;cases d with
|lst ds'=>
  cases e;rcases rv with rv|⟨a,rfl,o,ho⟩
  .obtain⟨a,xs,rfl,s,rs⟩:=rv.lst w.ok;exact .inl ⟨a,rfl,⟨xs,s⟩,q _ G' H' w (BE rv).toH⟩
  .cases o.ob with
  |lst r s=>exact .inl ⟨a,rfl,⟨_,cX.of r⟩,q _ G' H' w (NP fun G2 H2 le _ o2=>HE o ho (si.grow w).oldIn le o2)⟩
|tup ds'=>
  cases e;rcases rv with rv|⟨a,rfl,o,ho⟩
  .obtain⟨a,xs,rfl,s,rs⟩:=rv.tup w.ok;exact .inr ⟨a,rfl,⟨xs,s⟩,q _ G' H' w (A3 rv).toH⟩
  .cases o.ob
|_=>cases e
theorem BD{K:W.Frag}{h0:Hp}{ds:List D}{G0:GH}{sq:Hp->List V->Prop}(h:∀G H,cF G0 G->cp K G H->mH h0 H->∃xs,sq H xs/\dB K G xs ds):YieldsB K h0 (qk sq) (eu 0 ds) G0:=by
 refine⟨fun G H i w gk o hi=>?_,fun G H i x H' d w gk o y e=>?_,fun G H w gk o=>?_⟩
 .obtain⟨xs,s,r⟩:=h G H w gk o;rw[BU]at hi;have hl:=Paired.length r;exact⟨xs,xs[i],s,f_ (by omega)⟩
 .obtain⟨xs,s,r⟩:=h G H w gk o;obtain⟨p,v,hp,rfl,rfl,hv⟩:=y;rw[IE]at e;cases ed:ds[i]? with
 |none=>rw[ed]at e;cases e
 |some d0=>rw[ed]at e;simp only[Qck,QeG,QbL]at e;subst e;obtain⟨v',e1,rv⟩:=Paired.get r ed;have:=hv xs s;rw[e1]at this;cases this;exact⟨_,Grow.newF gk hp (.tup (.inl cV) (.cons (.scl (.int _)) (.cons rv .nil))),.ref gr⟩
 .obtain⟨xs,s,r⟩:=h G H w gk o;rw[BU];exact⟨xs,s,Paired.length r⟩
theorem O3(hg:Gl X "enumerate")(hm:X.mg "enumerate" = none)(he:ER X g m e f)(hs:h_ [e] X.env=(false,eval e X.env)::h_ [] X.env:=by rfl):oY X g m (.Tuple elts kk pos2) (.Call (.Name "enumerate" p) [e] [] pos) (tw f):=by
 refine PI.imp (PF hg hm he hs) fun σ H R ⟨r,G,si,q⟩=>⟨r,G,si,cJ (cN q) fun d q v G' H' w rv=>?_⟩
 obtain⟨ds,e,q⟩:=dU (cN q);cases d with
|lst ds'=>
  cases e;rcases rv with rv|⟨a,rfl,o,ho⟩
  .obtain⟨a,xs,rfl,s,rs⟩:=rv.lst w.ok;refine .inl ⟨a,rfl,⟨xs,s⟩,q _ G' H' w (BD fun G H le gk _=>?_)⟩;obtain⟨b,ys,e,s',r'⟩:=(rv.mono le).lst gk;cases e;exact⟨ys,s',r'⟩
  .cases o.ob with
  |lst r s=>exact .inl ⟨a,rfl,⟨_,cX.of r⟩,q _ G' H' w (BD fun G2 H2 le _ o2=>HE o ho (si.grow w).oldIn le o2)⟩
|tup ds'=>
  cases e;rcases rv with rv|⟨a,rfl,o,ho⟩
  .obtain⟨a,xs,rfl,s,rs⟩:=rv.tup w.ok;refine .inr ⟨a,rfl,⟨xs,s⟩,q _ G' H' w (BD fun G H le gk _=>?_)⟩;obtain⟨b,ys,e,s',r'⟩:=(rv.mono le).tup gk;cases e;exact⟨ys,s',r'⟩
  .cases o.ob
|_=>cases e
theorem pD(hp:Qc8 (E_ X.prog X.w) X.A X.env X.xe)(hc:X.calm=true){ft:FT}{fi:FI}(hi:oY X g m tg iter fi)(hg:SG X g m tg ft m)(hb:fF X g ro m m sts s1 m)(hs:∀x,QaH iter X.env x=pure x:=by intro _;rfl):SS X g ro mb m (.For tg iter sts [] pos) (eJ m fi ft s1) m:=by
 refine⟨rfl,PS.imp (uS hp hc hi hg.2 hb.2 hs) fun D σ H ⟨r,G,si,q⟩=>⟨r,G,si,cJ (gP si rfl q) fun ds q J G0 H0 w0 Y=>?_⟩⟩;refine⟨fun i n σ H=>∃r G,SI X g m r G σ H/\cF G0 G/\i<=ds.length/\n=ds.length-i/\c9 X g ro m mb G D (bM ft s1 (ds.drop i) r),⟨ds.length,r,G0,si.grow w0,cF.refl G0,Qaf _,rfl,c9.gle q w0.ge⟩,?_⟩
 rintro i n σ1 H1 ⟨r1,G1,si1,le1,hi,rfl,q1⟩
 by_cases hlt:i<ds.length
 .have hd:ds.drop i=ds[i]::ds.drop (i+1):=QaF hlt;rw[hd]at q1;unfold bM at q1;refine .inr ⟨Y.go G1 H1 i le1 si1.gok si1.oldIn hlt,fun σ' H'=>∃r G,SI X g m r G σ' H'/\cF G0 G/\c9 X g ro m mb G D (bM ft s1 (ds.drop (i+1)) r),fun σ' H' ⟨r',G',si',le',q'⟩=>⟨ds.length-(i+1),by omega,r',G',si',le',hlt,rfl,q'⟩,fun x H' y=>?_⟩;obtain⟨G',w',rv⟩:=Y.yld G1 H1 i x H' ds[i] le1 si1.gok si1.oldIn y (f_ hlt);have le':cF G0 G':=le1.trans w'.ge;cases BT:ft ds[i] r1 with
 |none=>simp only[BT]at q1;exact q1.elim
 |some r2=>simp only[BT]at q1;refine⟨r1,G',ds[i],si1.grow w',rv,r2,BT,fun σ2 Cl=>⟨r2,G',Cl,?_⟩⟩;cases eb:s1 r2 with
  |nx r'=>simp only[eb]at q1;exact fun σ3 G3 H3 U Z=>⟨r',G3,Z,le'.trans U,c9.gle q1 (cF.trans w'.ge U)⟩
  |ct r'=>simp only[eb]at q1;exact fun σ3 G3 H3 U Z=>⟨r',G3,Z,le'.trans U,c9.gle q1 (cF.trans w'.ge U)⟩
  |bk r'=>simp only[eb]at q1;exact fun σ3 G3 H3 U Z=>q1 σ3 G3 H3 (cF.trans w'.ge U) Z
  |rt d=>simp only[eb]at q1;exact q1
  |exc x r'=>simp only[eb]at q1;exact fun pz e s' σ3 G3 H3 U=>q1 pz e s' σ3 G3 H3 (cF.trans w'.ge U)
  |stuck=>simp only[eb]at q1;exact q1
 .have e:i=ds.length:=by omega
  subst e;rw[QbD]at q1;exact .inl ⟨Y.stop G1 H1 le1 si1.gok si1.oldIn,q1 σ1 G1 H1 (cF.refl _) si1⟩
end
section
open HT (sIx)
end
def o7:Nat:=2^2000
def pf(i j:Int):Prop:=i.natAbs<o7/\j.natAbs<o7
def tY(_i j:Int):Prop:=0<j/\j.natAbs<o7
instance decMulW(i j:Int):Decidable (pf i j):=by unfold pf;infer_instance
instance decDivW(i j:Int):Decidable (tY i j):=by unfold tY;infer_instance
theorem GD{i:Int}(h:i.natAbs<o7):Qcc i<=2000:=by
 unfold Qcc;split
 .exact Qaf _
 .rename_i z;have h0:i.natAbs≠0:=fun e=>z (by rw[Int.natAbs_eq_zero.mp e];rfl);have:=(Nat.log2_lt h0).mpr h;omega
theorem pf.ok{i j:Int}(h:pf i j):IntMulOk i j:=by
 have h1:=GD h.1;have h2:=GD h.2;unfold IntMulOk;have e:Qd5 ((Qcc i:Int)+(Qcc j:Int))=false:=by
  unfold Qd5;have:((bitsLine:Nat):Int)=134217728:=by decide+kernel
  exact decide_eq_false (by omega)
 rw[e];simp
theorem OR:cM X (Qbc .Mult) (rI pf fun i j=>.int (i*j)):=qe fun _ _ _ _ _ _ _ hc q=>mul_int q hc.ok
theorem QK:cM X (Qbc .FloorDiv) (rI tY fun i j=>.int (i/j)):=qe fun i j _ _ _ _ _ hc q=>by
 have h1:(0:Int)<j:=hc.1;have h2:j.natAbs<o7:=hc.2;have h0:j.natAbs≠0:=by omega
 have:=(Nat.log2_lt h0).mpr h2;exact floordiv_int (by omega) (by rw[Qdd i (by omega)];exact q) (.inl (PyProof.noPylong_of_log2 (by omega)))
abbrev eR:D->D->Option D:=kK pf fun a b=>.int (a*b)
abbrev qv:D->D->Option D:=kK tY fun a b=>.int (a/b)
variable{b c:Expr}{es:List Expr}{fa fb:FE}{fl:aQ->Res (List D)}{apos cpos:Pos}
section
variable{o:Expr}{fc fo:FE}
theorem kQ(ha:SB X g m a fa)(hb:SB X g m b fb):SE X g m (.BinOp a .Mult b pos) (f2 fa fb eR):=lq OR (pQ fun _ _=>.int _) ha hb
theorem Hw(ha:SB X g m a fa)(hb:SB X g m b fb):SE X g m (.BinOp a .FloorDiv b pos) (f2 fa fb qv):=lq QK (pQ fun _ _=>.int _) ha hb
def absD:List D->Option D
|[.int i]=>some (.int (if i<0 then-i else i))
|_=>none
theorem Mq{K:W.Frag}:qq K (fun xs H Q=>∃i:Int,xs=[.int i]/\Q (.int (if i<0 then-i else i)) H) absD:=by
 intro G H vs ds d Q gk rs e q;unfold absD at e;split at e
 .cases e;cases rs with
 |cons r1 t=>cases t;exact⟨_,by rw[r1.int gk],q _ G H (Grow.refl gk) (.scl (.int _))⟩
 .cases e
theorem VY(hg:Gl X "abs")(hm:X.mg "abs" = none)(ha:j4 X g m (e::es) fl)(he:h_ (e::es) X.env=(false,eval e X.env)::h_ es X.env:=by rfl)(hpl:(backTo pos (h_ es X.env)).any (·.1)=false:=by rfl):SE X g m (.Call (.Name "abs" p) (e::es) [] pos) (fC fl absD):=lX Mq (rJ Rp hg hm PyProof.Rows.boot_abs ha (by decide) (by decide) he hpl)
theorem vC{x:Str}{d:D}(hg:Gl X x)(hk:∃a,X.mg x=some (.ref a)/\KC X.K a d)(hd:(x==("__debug__" : Str))=false:=by decide):SE X g m (.Name x pos) fun _=>.ok d:=by obtain⟨a,hm,k⟩:=hk;exact PE.imp (Be (v:=.ref a) hg hm rfl hd) fun σ H Q ⟨r,G,si,q⟩=>q (.ref a) G H (Grow.refl si.gok) (.kc k)
theorem Hx{x:Str}{i:Int}(hg:Gl X x)(hk:∃t,X.mg x=some (.int i t))(hd:(x==("__debug__" : Str))=false:=by decide):SE X g m (.Name x pos) fun _=>.ok (.int i):=by obtain⟨t,hm⟩:=hk;exact N7 (v:=.int i) hg hm ⟨t,rfl⟩ (.int i) hd
theorem Wt{K:W.Frag}{h:Heap}{mg:Str->Option a_}{x:Str}(KX:K.In h)(G:h.Ns N_ mg){i:Int}{t:Tok}(z:W.nsIn K N_ x=some (some (.int i t))):∃t,mg x=some (.int i t):=⟨t,W.mg_of KX G z⟩
theorem LF{K:W.Frag}{h:Heap}{mg:Str->Option a_}{x:Str}(KX:K.In h)(G:h.Ns N_ mg){a:Addr}{i j:Int}{t u:Tok}{n:Nat}{sl:Array (Option a_)}(z:W.nsIn K N_ x=some (some (.ref a)))(l:K.lookup a=some ⟨.type "tuple",none,.seq #[.int i t,.int j u] n,sl⟩):∃a,mg x=some (.ref a)/\KC K a (.tup [.int i,.int j]):=by refine⟨a,W.mg_of KX G z,.tup (xs:=[.int i,.int j]) (.inr ⟨_,_,_,l,rfl,rfl,?_,.cons ⟨_,rfl⟩ (.cons ⟨_,rfl⟩ .nil)⟩) (.cons (.int _) (.cons (.int _) .nil)) ⟨_,l,rfl,rfl⟩⟩;show 2<=sizeLine;rw[Qaa];decide
def Hl(K:W.Frag):V->List V->Hp->VK->Prop:=fun x vs H Q=>∃p xs y,x=.ref p/\vs=[y]/\cX K H p xs/\iJ y=true/\xs.all iJ=true/\Q (.int ((xs.countP fun z=>il z y:Nat):Int)) H
theorem He{y:V}:∀{xs:List V}{us:List a_},aP xs us->xs.all iJ=true->us.countP (fB y)=xs.countP fun z=>il z y
|_,_,.nil,_=>rfl
|x::xs,u::us,.cons r t,f=>by rw[Qba,M_]at f;rw[Qb8,Qb8,He t f.2,qV r f.1]
theorem B8:lj X "list.count" (Hl X.K):=by
 intro pz s σ H x vs v us Q I rx rv h;obtain⟨p,xs,y,rfl,rfl,hq,fy,fx,q⟩:=h;cases rx;obtain⟨u,rfl,ru⟩:=jp rv;obtain⟨its,r,pl,hz⟩:=I.list hq;obtain⟨o,n,ho,hc,hd,hs⟩:=pl;obtain⟨BT,Z,Y,U⟩:=o;simp only at hc hd hs;subst hc hd hs;refine QcN QbG ⟨_,ho,rfl⟩ PySem.F.entry_list_count (PySem.F.args_list_count_2 _ _)
  (SeqAt.list_countAt p its.toArray n none U u (fB y)) ⟨ho,fun w hw=>pO ru fy r fx w (by simpa using hw),⟨.int _,H,I.tok _,⟨_,rfl⟩,?_⟩⟩
 have e:(its.toArray.toList.countP (fB y))=xs.countP fun z=>il z y:=He r fx;rw[e];exact q
def nJ(d:D)(zs:List D):Option D:=match d,zs with
|.lst ds,[x]=>if eG x=true/\ds.all eG=true then some (.int ((ds.countP fun z=>eqs z x:Nat):Int))else none
|_,_=>none
theorem Ce{K:W.Frag}:LR K (Hl K) nJ:=by
 intro G H v d vs ds d' Q gk rv rs e q;unfold nJ at e;split at e
 .rename_i zs x;split at e
  .rename_i hc;cases e;cases rs with
  |cons r1 rt=>
    cases rt;obtain⟨a,xs,rfl,s,r⟩:=rv.lst gk;obtain⟨e1,f1⟩:=RB.flat r1 gk hc.1;obtain⟨e3,f3⟩:=E4 r gk hc.2;refine⟨a,xs,_,rfl,rfl,s,f1,f3,?_⟩;have:(xs.countP fun z=>il z (gR x))=zs.countP fun z=>eqs z x:=by rw[e3,Qfn];rfl
    rw[e1,this];exact q _ G H (Grow.refl gk) (.scl (.int _))
  .cases e
 .cases e
end
def oP:bJ->D
|.inl i=>.int i
|.inr x=>.str x
theorem Pb(k:bJ):Scl (kV k) (oP k):=by cases k with
|inl i=>exact .int i
|inr x=>exact .str x
def lx:D->Option (List D)
|.dic kvs=>some (kvs.map fun kv=>oP kv.1)
|_=>none
def Ag(a:Addr)(ob:Obj)(ps:List (bJ×V)):It:=⟨fun i H=>H a=some (.frz ob (.dK ps))/\i<ps.length,fun i H x H'=>H'=H/\∃kv,ps[i]? = some kv/\x=kV kv.1,fun i H=>H a=some (.frz ob (.dK ps))/\i=ps.length⟩
theorem Nx{P:H_}{w:Z_}{k:bJ}{u:a_}(h:(gO P w).is k u=true):bH (kV k) u:=by
 rcases keyIs_shape h with⟨i,t,rfl,rfl⟩|⟨x,t,rfl,rfl⟩
 .exact⟨t,rfl⟩
 .exact⟨t,rfl⟩
variable{σ:L2.St}{H:Hp}
section
variable{pz:List (Addr×Obj)}{s:c_}{a:Addr}{ob:Obj}{ps:List (bJ×V)}
theorem Bs(I:Inv X pz σ H s)(e:H a=some (.frz ob (.dK ps))){es:Array Qe3}{ep:Nat}(hob:ob.data=.dict es ep):∃vs,KV ps vs/\s.heap.DictAt (gO X.prog X.w) a vs ep/\(a==Qbs)=false:=by
 obtain⟨h1,z,y,vs,r,o',es',U,h2,c1,c2,c3⟩:=(show cY X.prog X.w H s.heap a (.frz ob (.dK ps))from I.hok a _ e)
 rw[h1]at h2;cases h2;rw[hob]at c2;cases c2;exact⟨vs,r,⟨ob,es,h1,c1,hob,c3⟩,y⟩
theorem OZ(I:Inv X pz σ H s)(e:H a=some (.frz ob (.dK ps))):∃(es:Array Qe3)(ep:Nat),ob.data=.dict es ep:=by
 obtain⟨h1,z,y,vs,r,o',es',U,h2,c1,c2,c3⟩:=(show cY X.prog X.w H s.heap a (.frz ob (.dK ps))from I.hok a _ e)
 rw[h1]at h2;cases h2;exact⟨es',U,c2⟩
end
theorem TR{P:H_}{w:Z_}{K:W.Frag}{tg:Expr}(a it:Addr){ob:Obj}{ps:List (bJ×V)}{es:Array Qe3}{ep:Nat}(hob:ob.data=.dict es ep):Turn P w K tg (Ag a ob ps) [it] it (fun i h=>h.IsKeyIter it a i ps.length ep) where
 mem:=by simp
 obj:=fun i h st b hb=>by
  have e:b=it:=by simpa using hb
  subst e;obtain⟨o,e,c,d⟩:=st;exact⟨o,e,fun v z=>by rw[d]at z;cases z⟩
 keep:=fun i h h' st k=>st.at fun o e=>k it (by simp) o e
 item:=by
  intro X hP hw hK hc i pz s σ H E I hf st hg;subst hP hw hK;obtain⟨he,hi⟩:=hg;obtain⟨vs,r,m,_⟩:=Bs I he hob;have hl:ps.length=vs.length:=Paired.length r;have U:i<vs.length:=by omega
  obtain⟨kv,h1,h2⟩:=DL.Paired.get r (f_ U);obtain⟨f0,f1,f2,f3,f4,f5⟩:=hf it (by simp);rw[hl]at st;refine wpAny_pyNext_dict_item (k:=vs[i].1) (v:=vs[i].2) st m (f_ U) fun key h' Y hit' sb=>?_;have I1:Inv X pz σ H { s with heap:=h' }:=I.turned (t':=s.toks) (fun b o hb e=>(sb.2 b hb).trans e) f0 f1 f3 f4 f5;obtain⟨o,e,c,d⟩:=id hit';exact⟨key,rfl,uG (s:={ s with heap:=h' }) e c d (by decide) ⟨kV kv.1,H,I1,by rw[h2.1];exact Nx Y,⟨rfl,kv,h1,rfl⟩,by rw[hl];exact hit',fun b hb=>(hf b hb).1⟩⟩
 done:=by intro X hP hw hK hc i pz s σ H E I hf st hg;subst hP hw hK;obtain⟨he,hi⟩:=hg;obtain⟨vs,r,m,_⟩:=Bs I he hob;have hl:ps.length=vs.length:=Paired.length r;obtain⟨f0,f1,f2,f3,f4,f5⟩:=hf it (by simp);rw[hl]at st;exact wpAny_pyNext_dict_end (I.ok.hd hc) st m (by rw[Qal];omega) fun h' eb=>⟨rfl,I.turned (t':=s.toks) (fun b o hb e=>eb b o hb e) f0 f1 f3 f4 f5⟩
 self:=fun _ _ _ _ _ st h=>wpAny_pyIter_keyiter st h
variable{m1:List Md}
section
variable{tg:Expr}{p:FQ}{pos':Pos}
theorem HG{l:Expr}{tl:TE}(hl:PE X l tl):PI X tg l (fun σ H R=>tl σ H fun x H1=>∃a ob ps,x=.ref a/\H1 a=some (.frz ob (.dK ps))/\R (Ag a ob ps) H1):=by
 intro pz s σ H R I h;refine bR (hl pz s σ H _ I h) fun v s1 ⟨x,H1,I1,r1,q1⟩=>?_;obtain⟨a,ob,ps,e,he,q⟩:=q1;subst e;cases r1;obtain⟨es,ep,hob⟩:=OZ I1 he;obtain⟨vs,r,mm,hs⟩:=Bs I1 he hob;have hl:ps.length=vs.length:=Paired.length r;refine wpAny_pyIter_dict hs mm ?_;refine⟨s1.heap.objs.size,[s1.heap.objs.size],_,_,H1,rfl,I1.kept (t':=s1.toks) fun b o e=>i_ _ e,TR a _ hob,⟨_,B_ _ rfl,rfl,by rw[hl];rfl⟩,fun b hb=>?_,q⟩;have e:b=s1.heap.objs.size:=by simpa using hb
 subst e;exact I1.fpOk (r_ _) (I1.hok.fresh (r_ _))
theorem Gg{K:W.Frag}{G:GH}{ps:List (bJ×V)}{kvs:List (bJ×D)}(r:fj K G ps kvs){i:Nat}{kv:bJ×V}{d:D}(h:ps[i]? = some kv)(hd:(kvs.map fun kv=>oP kv.1)[i]? = some d):RG K G (kV kv.1) d:=by rw[u_]at hd;cases e:kvs[i]? with
|none=>rw[e]at hd;cases hd
|some q=>rw[e]at hd;cases hd;obtain⟨U,h1,h2⟩:=DL.Paired.get r e;rw[h]at h1;cases h1;rw[h2.1];exact .scl (Pb _)
theorem RG.dicF{K:W.Frag}{G:GH}{H:Hp}{v:V}{kvs:List (bJ×D)}(gk:cp K G H)(h:RG K G v (.dic kvs)):∃a ob ps,v=.ref a/\G a=some (.dic kvs)/\H a=some (.frz ob (.dK ps))/\fj K G ps kvs:=by cases h with
|scl s=>cases s
|ref e=>cases gk _ _ e with
 |dic r s=>exact⟨_,_,_,rfl,e,r,s⟩
|kc k=>cases k
theorem NQ{K:W.Frag}{a:Addr}{ob:Obj}{ps:List (bJ×V)}{kvs:List (bJ×D)}{G0:GH}{H0:Hp}(he:H0 a=some (.frz ob (.dK ps)))(r:fj K G0 ps kvs):YieldsC K (Ag a ob ps) (kvs.map fun kv=>oP kv.1) G0 H0:=by have hl:ps.length=kvs.length:=Paired.length r;refine⟨fun G H i w hi=>⟨w.he _ _ he,by rw[l_]at hi;omega⟩,fun G H i x H' d w y e=>?_,fun G H w=>⟨w.he _ _ he,by rw[l_];omega⟩⟩;obtain⟨rfl,kv,h1,rfl⟩:=y;exact⟨G,Grow.refl w.ok,Gg (fj.mono r w.ge) h1 e⟩
theorem O4(h:SE X g m e f):jH X g m tg e (bP lx f):=by
 refine PI.imp (HG h) fun σ H R ⟨r,G,si,q⟩=>⟨r,G,si,cJ (cN q) fun d q v G' H' w rv=>?_⟩
 obtain⟨ds,e,q⟩:=dU q;cases d with
|dic kvs=>cases e;obtain⟨a,ob,ps,rfl,_,he,rs⟩:=RG.dicF w.ok rv;exact⟨a,ob,ps,rfl,he,q _ G' H' w (NQ he rs)⟩
|_=>cases e
def io(g:GE)(a:Addr)(d:D)(u:HO):GE:=⟨gset g.gh a d,aY g.h0 a u,g.hd⟩
theorem SI.up{r:aQ}{G:GH}{st:L2.St}{H:Hp}{a:Addr}{d:D}{u:HO}(s:SI X g m r G st H)(hG:G a=some d)(hH:H a=some u):SI X (io g a d u) m r G st H where
 gok:=s.gok
 old:=fun b o e=>by
  by_cases hb:b=a
  .subst hb;have e':aY g.h0 b u b=some o:=e;rw[cV]at e';cases e';exact hH
  .have e':aY g.h0 a u b=some o:=e;rw[bT hb]at e';exact s.old b o e'
 ge:=fun b x e=>by
  by_cases hb:b=a
  .subst hb;have e':gset g.gh b d b=some x:=e;rw[gr]at e';cases e';exact hG
  .have e':gset g.gh a d b=some x:=e;rw[gN hb]at e';exact s.ge b x e'
 gf:=fun b h=>by
  show G b=gset g.gh a d b;by_cases hb:b=a
  .subst hb;rw[gr];exact hG
  .rw[gN hb];exact s.gf b fun z=>h (show aY g.h0 a u b=none by rw[bT hb];exact z)
 lm:=s.lm
 lr:=s.lr
 sh:=s.sh
 ow:=fun i x h1 h2=>by
  obtain⟨c,q1,q2,q3⟩:=s.ow i x h1 h2;refine⟨c,q1,q2,?_⟩;have hc:c≠a:=by rintro rfl;rw[q2.un]at hG;cases hG
  show aY g.h0 a u c=none;rw[bT hc];exact q3
 bw:=fun i x h1 h2=>by
  obtain⟨v,q1,q2⟩:=s.bw i x h1 h2;refine⟨v,q1,?_⟩;rcases q2 with q2|⟨c,e,q2,q3⟩
  .exact .inl q2
  .refine .inr ⟨c,e,q2,?_⟩;have hc:c≠a:=by rintro rfl;rw[q2.un]at hG;cases hG
   show aY g.h0 a u c≠none;rw[bT hc];exact q3
 dis:=s.dis
 lk:=s.lk
structure Had(g:GE)(a:Addr)(d:D)(u:HO):Prop where
 h0:∀o,g.h0 a=some o->o=u
 gh:∀x,g.gh a=some x->x=d
 gf:g.h0 a≠none->g.gh a=some d
theorem SI.had{r:aQ}{G:GH}{st:L2.St}{H:Hp}{a:Addr}{d:D}{u:HO}(s:SI X g m r G st H)(hG:G a=some d)(hH:H a=some u):Had g a d u:=⟨fun o e=>by have:=s.old a o e;rw[hH]at this;cases this;rfl,fun x e=>by have:=s.ge a x e;rw[hG]at this;cases this;rfl,fun h=>by rw[<-s.gf a h];exact hG⟩
theorem SI.down{r:aQ}{G:GH}{st:L2.St}{H:Hp}{a:Addr}{d:D}{u:HO}(hd:Had g a d u)(s:SI X (io g a d u) m r G st H):SI X g m r G st H:=by
 have hH:H a=some u:=s.old a u cV;have hG:G a=some d:=s.ge a d gr;exact{
  gok:=s.gok
  old:=fun b o e=>by
   by_cases hb:b=a
   .subst hb;rw[hd.h0 o e];exact hH
   .exact s.old b o (show aY g.h0 a u b=some o by rw[bT hb];exact e)
  ge:=fun b x e=>by
   by_cases hb:b=a
   .subst hb;rw[hd.gh x e];exact hG
   .exact s.ge b x (show gset g.gh a d b=some x by rw[gN hb];exact e)
  gf:=fun b h=>by
   by_cases hb:b=a
   .subst hb;rw[hG,hd.gf h]
   .have:=s.gf b (show aY g.h0 a u b≠none by rw[bT hb];exact h);rw[this];exact gN hb
  lm:=s.lm
  lr:=s.lr
  sh:=s.sh
  ow:=fun i x h1 h2=>by
   obtain⟨c,q1,q2,q3⟩:=s.ow i x h1 h2;have hc:c≠a:=by rintro rfl;rw[q2.un]at hG;cases hG
   refine⟨c,q1,q2,?_⟩;have U:aY g.h0 a u c=none:=q3;rw[bT hc]at U;exact U
  bw:=fun i x h1 h2=>by
   obtain⟨v,q1,q2⟩:=s.bw i x h1 h2;refine⟨v,q1,?_⟩;rcases q2 with q2|⟨c,e,q2,q3⟩
   .exact .inl q2
   .have hc:c≠a:=by rintro rfl;rw[q2.un]at hG;cases hG
    refine .inr ⟨c,e,q2,?_⟩;have U:aY g.h0 a u c≠none:=q3;rw[bT hc]at U;exact U
  dis:=s.dis
  lk:=s.lk }
theorem Grow.down{K:W.Frag}{G':GH}{H':Hp}{a:Addr}{d:D}{u:HO}(hd:Had g a d u)(w:Grow K (io g a d u).gh (io g a d u).h0 G' H'):Grow K g.gh g.h0 G' H':=
 ⟨w.ok,fun b o e=>by
  by_cases hb:b=a
  .subst hb;rw[hd.h0 o e];exact w.he b u cV
  .exact w.he b o (show aY g.h0 a u b=some o by rw[bT hb];exact e),fun b x e=>by
  by_cases hb:b=a
  .subst hb;rw[hd.gh x e];exact w.ge b d gr
  .exact w.ge b x (show gset g.gh a d b=some x by rw[gN hb];exact e),fun b h=>by
  by_cases hb:b=a
  .subst hb;rw[hd.gf h];exact w.ge b d gr
  .have:=w.gf b (show aY g.h0 a u b≠none by rw[bT hb];exact h);rw[this];exact gN hb⟩
def WL(X:Cx)(g:GE)(m:List Md)(f:FE):TI:=fun σ H R=>∃r G,SI X g m r G σ H/\fin (f r) (fun d=>∀a ob ps kvs G' H',d=.dic kvs->Grow X.K G H G' H'->G' a=some (.dic kvs)->H' a=some (.frz ob (.dK ps))->fj X.K G' ps kvs->R (Ag a ob ps) H') (XW X σ G H)
theorem L7(h:SE X g m e f)(hd:∀r d,f r=.ok d->∃kvs,d=.dic kvs):PI X tg e (WL X g m f):=by
 refine PI.imp (HG h) fun σ H R ⟨r,G,si,q⟩=>⟨r,G,si,?_⟩
 cases er:f r with
|ok d=>rw[er]at q;intro v G' H' w rv;obtain⟨kvs,rfl⟩:=hd r d er;obtain⟨a,ob,ps,rfl,hG,he,rs⟩:=RG.dicF w.ok rv;exact⟨a,ob,ps,rfl,he,q a ob ps kvs G' H' rfl w hG he rs⟩
|exc x=>rw[er]at q;exact q
|stuck=>rw[er]at q;exact q
def qH(f:FE):FE:=fun r=>(f r).bind fun d=>match d with
|.dic kvs=>.ok (.dic kvs)
|_=>.stuck
theorem Pj(h:SE X g m e f):SE X g m e (qH f):=PE.imp h fun σ H Q ⟨r,G,si,q⟩=>⟨r,G,si,by refine cJ (cN q) fun d q v G' H' w rv=>?_;cases d with
|dic kvs=>exact q v G' H' w rv
|_=>exact q.elim⟩
theorem S2(f:FE):∀r d,qH f r=.ok d->∃kvs,d=.dic kvs:=by intro r d e;unfold qH at e;cases er:f r with
|ok x=>rw[er,bind_ok]at e;cases x with
 |dic kvs=>cases e;exact⟨kvs,rfl⟩
 |_=>cases e
|exc x=>rw[er]at e;cases e
|stuck=>rw[er]at e;cases e
theorem Sr{r:aQ}{q:List D->Prop}{x:D->Prop}(h:fin (bP lx f r) q x):fin (qH f r) (fun d=>∀kvs,d=.dic kvs->q (kvs.map fun kv=>oP kv.1)) x:=by unfold bP at h;unfold qH;cases er:f r with
|ok d=>rw[er]at h;cases d with
 |dic kvs=>intro U e;cases e;exact h
 |_=>exact h
|exc y=>rw[er]at h;exact h
|stuck=>rw[er]at h;exact h
theorem FY(hp:Qc8 (E_ X.prog X.w) X.A X.env X.xe)(hc:X.calm=true){ft:FT}(hi:SE X g m iter f)(hg:∀g',SG X g' m tg ft m)(hb:∀g',fF X g' ro m m sts s1 m)(hs:∀x,QaH iter X.env x=pure x:=by intro _;rfl):SS X g ro mb m (.For tg iter sts [] pos) (eJ m (bP lx f) ft s1) m:=by
 have WW:PG X tg (fun v σ H Q=>∃g',tG X g' m m ft v σ H Q):=fun pz s σ H v u Q I r ⟨g',q⟩=>(hg g').2 pz s σ H v u Q I r q;have Ty:eD X sts (fun D σ H=>∃g',tS X g' ro m m m s1 D σ H):=fun pz s σ H D I ⟨g',q⟩=>(hb g').2 pz s σ H D I q;refine⟨rfl,PS.imp (uS hp hc (L7 (Pj hi) (S2 f)) WW Ty hs) fun D σ H ⟨r,G,si,q⟩=>⟨r,G,si,cJ (Sr (gP si rfl q)) fun d q a ob ps kvs G0 H0 ed w0 LE ST Id=>?_⟩⟩;replace q:=q kvs ed;have Cl:=si.grow w0;have hl:ps.length=kvs.length:=Paired.length Id;have had:=Cl.had LE ST;generalize BT:(kvs.map fun kv=>oP kv.1)=ds at q;have WZ:ds.length=ps.length:=by rw[<-BT,l_];omega
 refine⟨fun i n σ H=>∃r G,SI X (io g a (.dic kvs) (.frz ob (.dK ps))) m r G σ H/\cF G0 G/\i<=ds.length/\n=ds.length-i/\c9 X g ro m mb G D (bM ft s1 (ds.drop i) r),⟨ds.length,r,G0,Cl.up LE ST,cF.refl G0,Qaf _,rfl,c9.gle q w0.ge⟩,?_⟩
 rintro i n σ1 H1 ⟨r1,G1,si1,le1,hi,rfl,q1⟩
 have KK:H1 a=some (.frz ob (.dK ps)):=si1.old a _ cV;by_cases hlt:i<ds.length
 .have hd:ds.drop i=ds[i]::ds.drop (i+1):=QaF hlt;rw[hd]at q1;unfold bM at q1;refine .inr ⟨⟨KK,by omega⟩,fun σ' H'=>∃r G,SI X (io g a (.dic kvs) (.frz ob (.dK ps))) m r G σ' H'/\cF G0 G/\c9 X g ro m mb G D (bM ft s1 (ds.drop (i+1)) r),fun σ' H' ⟨r',G',si',le',q'⟩=>⟨ds.length-(i+1),by omega,r',G',si',le',hlt,rfl,q'⟩,fun x H' y=>?_⟩;obtain⟨rfl,kv,Tm,rfl⟩:=y;have rv:RG X.K G1 (kV kv.1) ds[i]:=Gg (fj.mono Id le1) Tm (by rw[BT];exact f_ hlt);cases Z:ft ds[i] r1 with
 |none=>simp only[Z]at q1;exact q1.elim
 |some r2=>simp only[Z]at q1;refine⟨io g a (.dic kvs) (.frz ob (.dK ps)),r1,G1,ds[i],si1,rv,r2,Z,fun σ2 WX=>⟨io g a (.dic kvs) (.frz ob (.dK ps)),r2,G1,WX,?_⟩⟩;cases eb:s1 r2 with
  |nx r'=>simp only[eb]at q1;exact fun σ3 G3 H3 U Y=>⟨r',G3,Y,le1.trans U,c9.gle q1 U⟩
  |ct r'=>simp only[eb]at q1;exact fun σ3 G3 H3 U Y=>⟨r',G3,Y,le1.trans U,c9.gle q1 U⟩
  |bk r'=>simp only[eb]at q1;exact fun σ3 G3 H3 U Y=>q1 σ3 G3 H3 U (Y.down had)
  |rt d=>simp only[eb]at q1;intro v G2 H2 wr IO;refine q1 v G2 H2 (wr.down had) ?_;cases ro with
   |false=>exact IO
   |true=>
     rcases IO with⟨c,e1,e2,e3⟩|z
     .refine .inl ⟨c,e1,?_,e3⟩;have WY:c≠a:=by
       rintro rfl
       have:=wr.ge c _ gr;rw[e3.un]at this;cases this
      have LT:aY g.h0 a (.frz ob (.dK ps)) c=none:=e2;rw[bT WY]at LT;exact LT
     .exact .inr z
  |exc x r'=>simp only[eb]at q1;exact fun pz e s' σ3 G3 H3 U Y=>q1 pz e s' σ3 G3 H3 U (Y.down had)
  |stuck=>simp only[eb]at q1;exact q1
 .have e:i=ds.length:=by omega
  subst e;rw[QbD]at q1;exact .inl ⟨⟨KK,by omega⟩,q1 σ1 G1 H1 (cF.refl _) (si1.down had)⟩
def lY:D->D->Option D
|.lst ds,.int k=>if-(2^62)<=k/\k<2^62/\ds.length*k.toNat<=sizeLine then some (.lst ((p_ k.toNat ds).flatten))else none
|_,_=>none
theorem Fp{K:W.Frag}{G:GH}{xs:List V}{ds:List D}(r:dB K G xs ds):∀n:Nat,dB K G (p_ n xs).flatten (p_ n ds).flatten
|0=>.nil
|n+1=>by rw[QaX,QaX,QaT,QaT];exact DL.Paired.app r (Fp r n)
theorem VH(ha:SO X g m a fa)(hb:SB X g m b fb):SO X g m (.BinOp a .Mult b pos) (f2 fa fb lY):=by
 refine PE.imp (Ff MI ha hb) fun σ H Q ⟨r,G,si,q⟩=>⟨r,G,si,cJ (cN q) fun d1 q1 p1 G1 H1 w1 U o1=>⟨r,G1,si.grow w1,iN (cN q1) w1 fun d2 q2 v2 G2 H2 w2 r2=>?_⟩⟩
 obtain⟨d,e,q3⟩:=dU q2;have o2:=o1.mono w2;unfold lY at e;split at e
 .split at e
  .rename_i ds k hk;cases e;cases o2.ob with
  |@lst xs _ hx rs=>have hl:=Paired.length rs;refine⟨p1,k,xs,rfl,r2.int w2.ok,hx,by omega,by omega,by rw[hl];exact hk.2.2,fun p hp=>?_⟩;have w3:=Grow.new w2.ok hp (.lst (p_ k.toNat xs).flatten);refine q3 p G2 _ ((w1.trans w2).trans w3) ?_ ⟨w2.ok.isN hp,.lst cV (Fp rs _)⟩;cases e:H p with
   |none=>rfl
   |some o=>rw[(w1.trans w2).he _ _ e]at hp;cases hp
  .cases e
 .cases e
end
variable{i:Nat}{r r':aQ}{G G':GH}{σ':L2.St}{H':Hp}
section
variable{w:List (List D)}
abbrev WV:=aQ->List (List D)->Option (aQ×List (List D))
variable{st:Stmt}{f1 f2:WV}{tg:Expr}
end
def RO(K:W.Frag)(H2:Hp)(p:Addr)(G:GH)(H:Hp)(ws:List V)(ds:List D):Prop:=Paired (fun v d=>∃b,v=V.ref b/\H2 b=none/\b≠p/\Own K G H b d) ws ds/\ws.Nodup
def qz:List D->Option D
|[.bl b]=>some (.int (if b then 1 else 0))
|_=>none
theorem Rz{X:Cx}:gL X (.type "int") (fun xs H Q=>∃b:Bool,xs=[.bl b]/\Q (.int (if b then 1 else 0)) H):=by intro pz s σ H xs us Q I r h;obtain⟨b,rfl,q⟩:=h;obtain⟨u,rfl,rx⟩:=jp r;cases rx;exact call_int_bool ⟨.int (if b then 1 else 0),H,I.tok _,⟨_,rfl⟩,q⟩
theorem O7{K:W.Frag}:qq K (fun xs H Q=>∃b:Bool,xs=[.bl b]/\Q (.int (if b then 1 else 0)) H) qz:=by
 intro G H vs ds d Q gk rs e q;unfold qz at e;split at e
 .cases e;cases rs with
 |cons r1 t=>cases t;exact⟨_,by rw[r1.bl gk],q _ G H (Grow.refl gk) (.scl (.int _))⟩
 .cases e
theorem N8{X:Cx}{g:GE}{m:List Md}{e:Expr}{es:List Expr}{fl:aQ->Res (List D)}{pos p:Pos}(hg:Gl X "int")(hm:X.mg "int" = none)(ha:j4 X g m (e::es) fl)(he:h_ (e::es) X.env=(false,eval e X.env)::h_ es X.env:=by rfl)(hpl:(backTo pos (h_ es X.env)).any (·.1)=false:=by rfl):SE X g m (.Call (.Name "int" p) (e::es) [] pos) (fC fl qz):=lX O7 (pS Rz hg hm rfl ha (by decide) (by decide) he hpl)
structure TL(K:W.Frag)(G:GH)(H:Hp)(p a:Addr)(d1:D)(ds:List D):Prop where
 tp:∃x xs,H p=some (.tup [x,.ref a])/\RG K G x d1/\H a=some (.lst xs)/\dB K G xs ds
 un:∀b∈[p,a],G b=none
 ne:p≠a
def RW(K:W.Frag)(H0:Hp)(G:GH)(H:Hp)(v:V)(d:D):Prop:=∃p a d1 ds,v=.ref p/\d=.tup [d1,.lst ds]/\(∀b∈[p,a],H0 b=none)/\TL K G H p a d1 ds
abbrev FW:=aQ->Res D
section
variable{ms:List Md}{q:FQ}{st:Stmt}{sts1:List Stmt}{F:List D->Res D}{k:Nat}{ps:List Str}{p1 p2 p3 p4:Pos}{x y:Str}{d1:D}{ds:List D}
abbrev F3:=aQ->D->List D->Option aQ
end
end DL
section
namespace DL
section
open PySem PyProof.Rows PySem.W PySem.Calls
variable{prog:H_}{w:Z_}{A:Qag}{E:a_->c_->Prop}{s:c_}{l:Addr}{vs:List a_}{ns:List Int}
end
open PySem PySem.Spec PyProof.Rows L2
end DL
end
section
namespace DL
section
open PySem PyProof.Rows
variable{prog:H_}{w:Z_}{A:Qag}{R:Qfv->c_->Prop}{I S:Addr}{fp wr:List Addr}{n:Nat}{P:Nat->a_->Prop}{St:Nat->Heap->Prop}{TP:Heap->Prop}{bt:Nat->Nat->Bool}
end
end DL
end
namespace DL
open PySem PySem.Spec PyProof.Rows L2
end DL
namespace DL
open PySem PySem.Spec PyProof.Rows L2 PySem.W PySem.Calls
def LG(K:W.Frag)(ro:Bool)(ms:List Md)(F:List D->Res D):Sp:=fun vs H Q E=>∃G ds,cp K G H/\ArgsOk K G H ms vs ds /\fin (F ds) (fun d=>∀v G' H',Grow K G H G' H'->RV ro K H G' H' v d->Q v H') fun x=>∀C od nm fs G' H',x=xD nm fs->XN K nm C->XF G' od fs->Grow K G H G' H'->E (.ref C) od H'
variable{X:Cx}{ps:List Str}{dvs:List V}{ds:List a_}{p pos:Pos}{e:Expr}{es:List Expr}
section
variable{k:Nat}{f:Addr}{fd:QaE}{sp:Sp}{x:Str}{t:TA}
def Ar(X:Cx)(σ:L2.St)(H:Hp)(E:XK):Prop:=∀pz s a cls od H' s',Inv X pz σ H s->Fly X.prog X.w X.stack H s H' a cls od s'->E cls od H'->X.xe (.ref a) s'
theorem Ht{pz:List (Addr×Obj)}{σ:L2.St}{H:Hp}{s:c_}{Q:VK}{E:XK}{us:List a_}{vs:List V}(F:FnOk X.prog X.w X.K X.mg X.base (mq X.prog X.w) k f fd ps sp)(hr:Room k X.A)(hb:g5 X.K fd ps ds)(hd:aP dvs ds)(I:Inv X pz σ H s)(hx:Ar X σ H E)(r:aP vs us)(h:sp (vs++dvs) H Q E):x_ (E_ X.prog X.w) X.A (call (.ref f) us) (EP X pz σ Q) X.xe s:=by
 have r2:aP (vs++dvs) (us++ds):=r.append hd;have hl:(us++ds).length=ps.length:=by rw[<-r2.length];exact F.len _ _ _ _ h
 refine Qco (QcB (F.run X.A X.stack s H ⟨us,[]⟩ (us++ds) (vs++dvs) Q E hr I.env0 (hb s us I.kIn hl) r2 h) fun r s' hq=>?_);cases r with
|error e=>obtain⟨a,cls,H',od,rfl,fl,q⟩:=hq;exact hx pz s a cls od H' s' I fl q
|ok fl=>cases fl with
 |ret u=>exact I.after hq
 |next=>exact Qai hq
 |brk=>exact Qai hq
 |cont=>exact Qai hq
theorem QM(F:FnOk X.prog X.w X.K X.mg X.base (mq X.prog X.w) k f fd ps sp)(hr:Room k X.A)(hg:Gl X x)(hm:X.mg x=some (.ref f))(hk:W.keepIn X.K (.ref f)=true)(hb:g5 X.K fd ps ds)(hd:aP dvs ds)(ha:PA X (e::es) t)(U:(x==("__debug__" : Str))=false:=by decide)(he:h_ (e::es) X.env=(false,eval e X.env)::h_ es X.env:=by rfl)(hpl:(backTo pos (h_ es X.env)).any (·.1)=false:=by rfl):PE X (.Call (.Name x p) (e::es) [] pos) (fun σ H Q=>t σ H fun vs H1=>∃E,sp (vs++dvs) H1 Q E/\Ar X σ H1 E):=by intro pz s σ H Q I h;refine QaL (j9 I hg hm ?_ U);refine W.callWith_K (h₀:=X.base) I.ok.mod.kin hk (bR (ha pos pz s σ H _ I h) fun us s1 ⟨vs,H1,I1,r,E,q,px⟩=>⟨I1.kIn,?_⟩) he hpl;exact Ht F hr hb hd I1 px r q
end
section
variable{P:H_}{w:Z_}{K:W.Frag}{mg:Str->Option a_}{base:Heap}
theorem G6{x qual:Str}{st:Stmt}{f:Addr}{fd:QaE}{N ps:List Str}{k:Nat}{ro:Bool}{ms:List Md}{fs:FS}{m':List Md}(F:Fun K x qual st f fd)(S:FnScope N ps (aF st))(hms:ms.length=ps.length)(U:∀(cdv:a_)(A:Qag)(outer:List Env)(s:c_)(H:Hp)(g:GE)(E:XK),Room k (A.deeper (QbJ qual (aF st) s.heap.objs.size f cdv)) ->fF (cw (mq P w) P w K mg base N qual (aF st) f cdv A outer s H E) g ro [] (hX N.length ms) (aN st) fs m'):FnOk P w K mg base (mq P w) (k+1) f fd ps (LG K ro ms fun ds=>aT ro (fs (bL N.length ds))):=by
 obtain⟨oc,od,kV,doc,pm,an,cdv,ct,osl,rfl,lk,BT⟩:=F.ex;refine qw lk BT S (fun vs H Q E ⟨G,ds,gk,rs,q⟩=>rs.len.1.trans hms) fun A outer s H vs Q E hr h=>?_;obtain⟨G,ds,gk,rs,q⟩:=h;have hpl:ps.length<=N.length:=by have:=congrArg Qb0 S.pre;rw[QaO]at this;omega
 refine⟨_,(U cdv A outer s H ⟨G,H,fun _=>none⟩ E hr).2,bL N.length ds,G,rC gk rs (by omega),?_⟩;replace q:fin (aT ro (fs (bL N.length ds))) _ _:=q;cases e:fs (bL N.length ds)with
|nx r'=>rw[e]at q;cases ro with
 |false=>exact fun σ' G' H' _ si=>q .non G' H' si.grown (.scl .non)
 |true=>exact q.elim
|rt d=>rw[e]at q;exact fun v G' H' wg rv=>q v G' H' wg rv
|bk r'=>rw[e]at q;exact q.elim
|ct r'=>rw[e]at q;exact q.elim
|exc x r'=>rw[e]at q;intro pz ev s' σ' G' H' le si I ex;obtain⟨Cl,s1,H1,a,C,Y,nm,Z,rfl,rfl,xn,xf,I1,fl⟩:=ex;exact fl.leaves I1 rfl rfl rfl fun s'' fl2=>⟨a,_,H',Y,rfl,fl2,q C Y nm Z G' H' rfl xn xf si.grown⟩
|stuck=>rw[e]at q;exact q
structure CalleeX(P:H_)(w:Z_)(K:W.Frag)(mg:Str->Option a_)(base:Heap)(x:Str)(ps:List Str)(ds:List a_)(k:Nat)(ro:Bool)(ms:List Md)(F:List D->Res D):Prop where
 ex:∃f fd,mg x=some (.ref f)/\W.keepIn K (.ref f)=true/\g5 K fd ps ds/\FnOk P w K mg base (mq P w) k f fd ps (LG K ro ms F)
theorem uZ{x:Str}{st:Stmt}{N ps:List Str}{k:Nat}{ro:Bool}{ms:List Md}{fs:FS}{m':List Md}(A:DefAt K mg x st)(S:FnScope N ps (aF st))(hms:ms.length=ps.length)(hb:∀(kV doc pm:a_)(an:Option Addr)(cdv ct:a_)(us:List a_),us.length=ps.length->QbN (W.fnOf x x (aU st) (aN st) (aF st) .none kV doc pm an cdv ct) ⟨us,[]⟩=pure (ps.zip us))(U:∀(f:Addr)(cdv:a_)(A:Qag)(outer:List Env)(s:c_)(H:Hp)(g:GE)(E:XK),Room k (A.deeper (QbJ x (aF st) s.heap.objs.size f cdv)) ->fF (cw (mq P w) P w K mg base N x (aF st) f cdv A outer s H E) g ro [] (hX N.length ms) (aN st) fs m'):CalleeX P w K mg base x ps [] (k+1) ro ms fun ds=>aT ro (fs (bL N.length ds)):=by obtain⟨f,fd,h1,F⟩:=A.ex;exact⟨f,fd,h1,F.kp,F.binds hb,G6 F S hms (U f)⟩
end
variable{g:GE}{m ms:List Md}{fl:aQ->Res (List D)}{F:List D->Res D}{C:Addr}
section
variable{ro:Bool}{mb:List Md}{k:Nat}{dds:List D}{x:Str}{np:Pos}
def iw(fl:aQ->Res (List D))(dds:List D)(F:List D->Res D):FE:=fun r=>(fl r).bind fun ds=>F (ds++dds)
theorem P8(c:CalleeX X.prog X.w X.K X.mg X.base x ps ds k false (ms++p_ dds.length .sh) F)(hr:Room k X.A)(hd:aP dvs ds)(hsc:Paired Scl dvs dds)(ha:iZ X g m (e::es) ms fl)(hg:Gl X x:=by rfl)(U:(x==("__debug__" : Str))=false:=by decide)(he:h_ (e::es) X.env=(false,eval e X.env)::h_ es X.env:=by rfl)(hpl:(backTo pos (h_ es X.env)).any (·.1)=false:=by rfl):SE X g m (.Call (.Name x p) (e::es) [] pos) (iw fl dds F):=by
 obtain⟨fa,fd,h1,h2,h3,G1⟩:=c.ex;refine PE.imp (QM G1 hr hg h1 h2 h3 hd ha U he hpl) fun σ H Q ⟨r,G,si,q⟩=>⟨r,G,si,?_⟩
 cases ez:fl r with
|ok zs=>
  unfold iw at q;rw[ez]at q;intro vs G' H' w' rs;refine⟨fun cls od H2=>∃C nm fs G2,cls=.ref C/\F (zs++dds)=.exc (xD nm fs)/\XN X.K nm C/\XF G2 od fs/\Grow X.K G' H' G2 H2,⟨G',zs++dds,w'.ok,rs.app hsc,?_⟩,?_⟩
  .cases ef:F (zs++dds)with
  |ok d=>replace q:fin (F (zs++dds)) _ _:=q;rw[ef]at q;exact fun v G2 H2 w2 rv=>q v G2 H2 (w'.trans w2) rv
  |exc y=>exact fun C od nm fs G2 H2 hy xn xf w2=>⟨C,nm,fs,G2,rfl,by rw[hy],xn,xf,w2⟩
  |stuck=>replace q:fin (F (zs++dds)) _ _:=q;rw[ef]at q;exact q
  .intro pz s a cls od H2 s' I fl ⟨C,nm,fs,G2,hc,ef,xn,xf,w2⟩;subst hc;replace q:fin (F (zs++dds)) _ _:=q;rw[ef]at q;exact q pz (.ref a) s' G2 H2 (w'.trans w2) (fl.inv I) ⟨pz,s,H',a,C,od,nm,fs,rfl,rfl,xn,xf,I,fl⟩
|exc x=>unfold iw at q;rw[ez]at q;exact q
|stuck=>unfold iw at q;rw[ez]at q;exact q
def kj(m:List Md)(nm:Str)(fl:aQ->Res (List D)):FS:=fun r=>iU m r (fl r) fun ds=>if ds.length<=100 then .exc (xD nm []) (forget m r)else .stuck
theorem HU{nm:Str}(hc:X.calm=true)(c:XC X.K X.mg x C)(xn:XN X.K nm C)(hg:Gl X x)(ha:SA X g m (e::es) fl)(U:(x==("__debug__" : Str))=false:=by decide)(he:h_ (e::es) X.env=(false,eval e X.env)::h_ es X.env:=by rfl)(hpl:(backTo p (h_ es X.env)).any (·.1)=false:=by rfl):SS X g ro mb m (.Raise (some (.Call (.Name x np) (e::es) [] p)) none pos) (kj m nm fl) m:=by
 refine⟨rfl,fun pz s σ H D I ⟨r,G,si,q⟩=>?_⟩;refine Sg I hc c hg ha ⟨r,G,si,?_⟩ U he hpl;refine cJ (gP si rfl q) fun ds q vs G' H' w' rs=>?_;have hl:vs.length=ds.length:=Paired.length rs;split at q
 .rename_i h100;refine⟨by rw[hl];exact L_ h100 (by decide),fun s1 a s' I1 fl=>?_⟩;exact q pz (.ref a) s' σ G' H' w'.ge (by have:=(si.grow w').forget;exact this) (fl.inv I1) ⟨pz,s1,H',a,C,none,nm,[],rfl,rfl,xn,rfl,I1,fl⟩
 .exact q.elim
end
variable{E:a_->c_->Prop}{s:c_}
section
variable{M:Qfs}{A:Qag}{nm q nmT qT:Str}{N T NT:Addr}{bs bm bsT bmT:List a_}{hdct hdctT:Bool}{sn snT:List Str}{sub subT':List a_}{ab abT:Bool}{col colT:Option Bool}{dd ddT:Option Addr}{k0 k1 k2 k3 k5 t0 t1 t2 t3 t5:Option a_}{newId newIdT:String}
theorem K5{e:Addr}{oe:Obj}{Q:Bool->c_->Prop}(hC:s.heap.get? C=some (QaZ nm q C N bs bm hdct sn sub ab col dd k0 k1 k2 k3 k5 newId))(hT:s.heap.get? T=some (QaZ nmT qT T NT bsT bmT hdctT snT subT' abT colT ddT t0 t1 t2 t3 t5 newIdT))(he:s.heap.get? e=some oe)(hc:oe.cls=.ref C)(hb:bmT.contains (Value.type "BaseException")=true)(hq:Q ((Value.ref C::bm).contains (.ref T)) s):x_ M A (excMatches (.ref e) (.ref T)) Q E s:=by unfold excMatches;refine b_ (wpAny_isInstance (T := "type") (b:=false) ⟨_,hT,rfl⟩ (by rw[isSubtype_type];kernel_rfl) ?_);rw[if_neg d_];refine b_ (n_ ?_);simp only[Qd0,List.forIn_nil];refine b_ (b_ ?_);unfold isExcClass isType;refine b_ (b_ (b_ (Qde hT (n_ ?_))));rw[if_pos rfl];obtain⟨hh,hg,U,ht,ho⟩:=s;refine QbA hT ?_;rw[Qcq,hb,QdT];rw[if_neg (by simp)];refine n_ (n_ ?_);refine b_ ?_;unfold Qev;refine b_ (Qde he (n_ ?_));rw[hc];refine b_ (b_ (b_ (QbA hC ?_)));cases hm:(Value.ref C::bm).contains (Value.ref T)with
|true=>rw[hm]at hq;rw[if_pos rfl];exact n_ (n_ (n_ hq))
|false=>rw[hm]at hq;rw[if_neg d_];exact n_ (n_ (n_ hq))
end
def XO(K:W.Frag)(C:Addr)(bm:List a_):Prop:=∃N nm q bs hdct sn sub ab col dd k0 k1 k2 k3 k5 newId,K.lookup C=some (QaZ nm q C N bs bm hdct sn sub ab col dd k0 k1 k2 k3 k5 newId)
abbrev _root_.L2.Cx.held(X:Cx)(v:a_):Cx:={ X with A:=X.A.mark (some v),calm:=false,xe:=fun _ _=>False }
variable{pz:List (Addr×Obj)}{σ:L2.St}{H:Hp}
section
variable{H':Hp}{s':c_}{a:Addr}{od:Option Addr}
theorem Inv.held(I:Inv X pz σ H s)(v:a_):Inv (X.held v) pz σ H s:=⟨⟨I.ok.mod,I.ok.kind,I.ok.glob,I.ok.blt,I.ok.above,I.ok.inj,I.ok.has,I.ok.cab,(fun h=>nomatch h),I.ok.frames,I.ok.stk,I.ok.exf,I.ok.bs,I.ok.bsz,I.ok.noex,I.ok.exfs,I.ok.funs,I.ok.frf⟩,I.os,I.bare,I.base,I.loc,I.cell,I.free,I.freeC,I.pin,I.hok,I.len⟩
theorem Inv.unheld{v:a_}(hh:X.calm=true->X.A.handled=none)(I:Inv (X.held v) pz σ H s):Inv X pz σ H s:=⟨⟨I.ok.mod,I.ok.kind,I.ok.glob,I.ok.blt,I.ok.above,I.ok.inj,I.ok.has,I.ok.cab,hh,I.ok.frames,I.ok.stk,I.ok.exf,I.ok.bs,I.ok.bsz,I.ok.noex,I.ok.exfs,I.ok.funs,I.ok.frf⟩,I.os,I.bare,I.base,I.loc,I.cell,I.free,I.freeC,I.pin,I.hok,I.len⟩
theorem Fly.noted{E:a_->c_->Prop}{M:Qfs}{Q:Unit->c_->Prop}(F:Fly X.prog X.w X.stack H s H' a (.ref C) od s')(I:Inv X pz σ H s)(U:X.stack=X.env::X.outer)(BT:X.env.frame=some X.env.locals)(q:∀h' oe vs tb ot ts,Inv X pz σ (aY H' a (.ext (lh a C od))) { heap:=h',gens:=s'.gens,drawn:=s'.drawn,toks:=s'.toks,os:=s'.os }->H' a=none->h'.get? a=some oe->oe.cls=.ref C->oe.data=.fields vs->vs[1]? = some (.ref tb)->h'.get? tb=some ot->ot.data=.fields ts->ts[3]? = some Value.none ->Q () { heap:=h',gens:=s'.gens,drawn:=s'.drawn,toks:=s'.toks,os:=s'.os }):x_ M X.A (Qda (.ref a) X.env) (fun _ s2=>x_ M X.A (Qb7 (.ref a) none) Q E s2) E s':=by
 obtain⟨B,hB,Cl,Z,⟨oe,vs,r1,r2,r3,r4,r5⟩,hd,hH⟩:=F.ex;have IO:H' a=none:=by cases e:H' a with
 |none=>rfl
 |some u=>obtain⟨o',z⟩:=hH a u e;rw[Cl]at z;cases z
 have LT:a∉dh X.stack:=fun z=>by obtain⟨_,o,e1,nf⟩:=Z.mem z;rw[r1]at e1;cases e1;exact nf vs r4
 have ST:1<vs.size:=by rcases r5 with z|⟨_,_,_,z,_⟩|⟨_,_,_,_,_,z,_⟩ <;> exact(Qaz.mp z).1
 have Ty:∀b o,s.heap.get? b=some o->b≠a:=fun b o e z=>by rw[z]at e;obtain⟨o',z2⟩:=hd a o e LT;rw[Cl]at z2;cases z2
 have fin:∀(T:Option Addr) h',(∀b,T=some b->B.get? b=none)->Lft (dh (X.env::X.outer)) a oe vs T Value.none s'.heap h'->Q () { heap:=h',gens:=s'.gens,drawn:=s'.drawn,toks:=s'.toks,os:=s'.os }:=fun T h' hT l=>by
  rw[<-U]at l;have same:∀b o,(∃o',B.get? b=some o')->s'.heap.get? b=some o->h'.get? b=some o:=fun b o ⟨o',e⟩ h=>by refine l.keep b o (fun z=>?_) (fun z=>by rw[z,Cl]at e;cases e) (fun z=>by rw[hT b z]at e;cases e) h;rw[(Z.mem z).1]at e;cases e
  obtain⟨tb,ot,ts,t1,t2,t3,t4,t5,t6⟩:=l.obj;have KK:HOk X.prog X.w H' h':=fun b u e=>by
   refine(F.hok b u e).stay (fun c v hc e1=>same c v ?_ e1) (fun _ z=>z) fun _ _ z=>z;rcases hc with hc|hc
   .rw[hc];exact hH b u e
   .exact hH c _ hc
  have hne:∀b u,H' b=some u->b≠a:=fun b u e z=>by rw[z,IO]at e;cases e
  have LE:HOk X.prog X.w (aY H' a (.ext (lh a C od))) h':=fun b u e=>by
   by_cases hb:b=a
   .subst hb;rw[cV]at e;cases e;exact⟨⟨_,_,t3,r2,r3,rfl⟩,⟨_,t3⟩,fun h1 h2 ⟨oe',vs',z1,z2,z3,z4⟩ k=>⟨oe',vs',k _ z1,z2,z3,z4⟩⟩
   .rw[bT hb]at e;refine(KK b u e).stay (fun _ _ _ z=>z) (fun c z=>?_) fun c xs z=>?_
    .rw[bT (hne c _ z)];exact z
    .rw[bT (hne c _ z)];exact z
  have I2:Inv X pz σ (aY H' a (.ext (lh a C od))) { heap:=h',gens:=s'.gens,drawn:=s'.drawn,toks:=s'.toks,os:=s'.os }:=by
   refine I.call' (ch:=[]) F.os ⟨fun b o e n f z=>?_,fun b o e n f z=>?_,fun b o e n z=>?_,fun b o e z=>?_,fun b xs e=>?_,fun b o u e=>?_,fun b ps e=>?_⟩ LE F.bare fun b z=>absurd z (by simp)
   .exact same b o (hd b o e f) (F.un.keep b o e n f z)
   .obtain⟨sl,e1⟩:=F.un.slot b o e n f z;obtain⟨_,o2,e2,nf⟩:=Z.mem f;rw[e1]at e2;cases e2;obtain⟨Tm,e3⟩:=l.slot b _ e1 nf;exact⟨Tm,e3⟩
   .rw[bT (Ty b o e)];exact F.un.free b o e n z
   .obtain⟨o1,e1⟩:=F.un.there b o e z;by_cases f:b∈dh X.stack
    .obtain⟨_,o2,e2,nf⟩:=Z.mem f;obtain⟨sl,e3⟩:=l.slot b _ e2 nf;exact⟨_,e3⟩
    .exact⟨o1,same b o1 (hd b o e f) e1⟩
   .have:=F.un.tups b xs e;rw[bT (hne b _ this)];exact this
   .have:=F.un.frzs b o u e;rw[bT (hne b _ this)];exact this
   .obtain⟨mo,this⟩:=F.un.tbls b ps e;exact⟨mo,by rw[bT (hne b _ this)];exact this⟩
  exact q h' _ _ tb ot ts I2 IO t3 r2 rfl (U_ ST) t4 t5 t6
 have Id:x_ M X.A (Qda (.ref a) X.env) (fun _ s2=>tZ a s2.heap/\x_ M X.A (Qb7 (.ref a) none) Q E s2) E s'->x_ M X.A (Qda (.ref a) X.env) (fun _ s2=>x_ M X.A (Qb7 (.ref a) none) Q E s2) E s':=fun z=>Qan z (fun _ _ z=>z.2) fun _ _ z=>z;have Y:=Z;rw[U]at Y;rcases r5 with z|⟨T,oT,ts,z1,z2,z3,z4,z5,z6⟩|⟨l,T,oT,ts,zl,z1,z2,z3,z4,z5,z6⟩
 .exact Id (vZ (T:=none) (by rw[I.ok.frames,U]) Y BT r1 r4 (fl:=none) (.inl ⟨z,rfl⟩) fun h' l=>fin none h' (fun b e=>nomatch e) l)
 .exact Id (vZ (T:=some T) (by rw[I.ok.frames,U]) Y BT r1 r4 (fl:=none) (.inr (.inl ⟨T,oT,ts,rfl,z1,z3,z4,z5,z6⟩)) fun h' l=>fin (some T) h' (fun b e=>by cases e;exact z2) l)
 .have hl:l=X.env.locals:=by unfold om at zl;rw[U]at zl;exact(J_ (BT.symm.trans (show X.env.frame=some l from zl))).symm
  subst hl;exact Id (vZ (T:=some T) (by rw[I.ok.frames,U]) Y BT r1 r4 (fl:=none) (.inr (.inr ⟨T,oT,ts,rfl,z1,z3,z4,z5,z6⟩)) fun h' l=>fin (some T) h' (fun b e=>by cases e;exact z2) l)
end
theorem SI.cx{X X':Cx}{g:GE}{m:List Md}{r:aQ}{G:GH}{st:L2.St}{H:Hp}(s:SI X g m r G st H)(h:X'.K=X.K):SI X' g m r G st H:=by
 constructor
 .rw[h];exact s.gok
 .exact s.old
 .exact s.ge
 .exact s.gf
 .exact s.lm
 .exact s.lr
 .rw[h];exact s.sh
 .rw[h];exact s.ow
 .rw[h];exact s.bw
 .exact s.dis
 .exact s.lk
abbrev _root_.L2.Cx.tr(X:Cx)(ps:List (Addr×Obj))(E:a_->c_->Prop):Cx:={ X with pn:=ps,xe:=E }
section
variable{pins':List (Addr×Obj)}
theorem Inv.tr(I:Inv X pz σ H s)(E:a_->c_->Prop):Inv (X.tr (X.pn++pz) E) [] σ H s:=⟨⟨I.ok.mod,I.ok.kind,I.ok.glob,I.ok.blt,I.ok.above,I.ok.inj,I.ok.has,I.ok.cab,I.ok.hd,I.ok.frames,I.ok.stk,I.ok.exf,I.ok.bs,I.ok.bsz,I.ok.noex,I.ok.exfs,I.ok.funs,I.ok.frf⟩,I.os,I.bare,I.base,I.loc,I.cell,I.free,I.freeC,fun p hp=>I.pin p (by rw[W_]at hp;exact hp),I.hok,I.len⟩
theorem Inv.untr(I:Inv (X.tr (X.pn++pz) E) pins' σ H s):Inv X pz σ H s:=⟨⟨I.ok.mod,I.ok.kind,I.ok.glob,I.ok.blt,I.ok.above,I.ok.inj,I.ok.has,I.ok.cab,I.ok.hd,I.ok.frames,I.ok.stk,I.ok.exf,I.ok.bs,I.ok.bsz,I.ok.noex,I.ok.exfs,I.ok.funs,I.ok.frf⟩,I.os,I.bare,I.base,I.loc,I.cell,I.free,I.freeC,fun p hp=>I.pin p (QaN _ hp),I.hok,I.len⟩
theorem SP.untr{D:Ends}{f:Flow}(h:SP (X.tr (X.pn++pz) E) [] D f s):SP X pz D f s:=by cases f with
|next=>obtain⟨σ',H',I,q⟩:=h;exact⟨σ',H',Inv.untr I,q⟩
|brk=>obtain⟨σ',H',I,q⟩:=h;exact⟨σ',H',Inv.untr I,q⟩
|cont=>obtain⟨σ',H',I,q⟩:=h;exact⟨σ',H',Inv.untr I,q⟩
|ret u=>obtain⟨v,σ',H',I,r,q⟩:=h;exact⟨v,σ',H',Inv.untr I,r,q⟩
end
def j5(K:W.Frag)(T:Addr)(hit:Str->Bool):Prop:=∀nm C,hit nm=true->XN K nm C->∃bm,XO K C bm/\(Value.ref C::bm).contains (.ref T)=true
def WE:D->Option Str
|.obj 0 ((_,.str nm)::_)=>some nm
|_=>none
structure XA(K:W.Frag)(C:Addr)(bm:List a_):Prop where
 ob:XO K C bm
 be:bm.contains (Value.type "BaseException")=true
 bo:bm.contains (Value.type "object")=true
 ga:Qdl K (.ref C) "__getattribute__" = some (some (.builtin "BaseException.__getattribute__"))
 gn:Qdl K (.ref C) "__getattr__" = some none
 gc:Qdl K (.ref C) "__class__" = some (some (.builtin "object.__class__"))
 gg:specialIn K (.builtin "object.__class__") "__get__" = some (some (.builtin "getset_descriptor.__get__"))
 gt:takesIn K (.builtin "object.__class__")=some true
section
variable{k:Nat}{x:Str}
theorem lF(c:CalleeX X.prog X.w X.K X.mg X.base x ps [] k false ms F)(hr:Room k X.A)(ha:iZ X g m (e::es) ms fl)(hg:Gl X x:=by rfl)(U:(x==("__debug__" : Str))=false:=by decide)(he:h_ (e::es) X.env=(false,eval e X.env)::h_ es X.env:=by rfl)(hpl:(backTo pos (h_ es X.env)).any (·.1)=false:=by rfl):SE X g m (.Call (.Name x p) (e::es) [] pos) (iw fl [] F):=P8 (ms:=ms) (dds:=[]) (dvs:=[]) (ds:=[]) (by rw[show(p_ ([]:List D).length Md.sh)=[]from rfl,W_];exact c) hr .nil .nil ha hg U he hpl
end
theorem XN.uniq{K:W.Frag}{nm:Str}{C c:Addr}(h:XN K nm C)(k:(K.all fun e=>match e.2.data with|.cls cd=>cd.name != nm || e.1==c|_=>true)=true):C=c:=by
 obtain⟨o,cd,h1,h2,h3⟩:=h;have hm:(C,o)∈(K:List (Addr×Obj)):=by
  have key:∀l:List (Addr×Obj),l.lookup C=some o->(C,o)∈l:=by
   intro l
   induction l with
  |nil=>intro h;cases h
  |cons q l ih=>
    intro h;rw[Qa2]at h;split at h
    .rename_i hb;have:=QaQ hb;cases h;rw[this];exact j_
    .exact k_ _ (ih h)
  exact key K h1
 have:=List.all_eq_true.mp k _ hm;simp only[h2]at this;rw[h3]at this;simpa using this
end DL
namespace DL
open PySem PySem.Spec PyProof.Rows L2
theorem iq.get{K:W.Frag}{G:GH}{fs:List (Str×V)}{ds:List (Str×D)}{d:D}{f:Str}(h:iq K G fs ds)(l:ds.lookup f=some d):∃v,fs.lookup f=some v/\RG K G v d:=by induction h with
|nil=>cases l
|@cons p q fs ds r _ ih=>
  obtain⟨a,v⟩:=p;obtain⟨b,d'⟩:=q;obtain⟨r1,r2⟩:=r;have r1:a=b:=r1;subst r1;rw[Qa2]at l ⊢;split at l
  .cases l;exact⟨v,rfl,r2⟩
  .exact ih l
theorem iq.no{K:W.Frag}{G:GH}{fs:List (Str×V)}{ds:List (Str×D)}{f:Str}(h:iq K G fs ds)(l:ds.lookup f=none):fs.lookup f=none:=by induction h with
|nil=>rfl
|@cons p q fs ds r _ ih=>
  obtain⟨a,v⟩:=p;obtain⟨b,d'⟩:=q;obtain⟨r1,r2⟩:=r;have r1:a=b:=r1;subst r1;rw[Qa2]at l ⊢;split at l
  .cases l
  .exact ih l
theorem RB.ins{K:W.Frag}{G:GH}{H:Hp}{v:V}{k:Str}{nm:Str}{ds:List (Str×D)}(gk:cp K G H)(h:RB K G H v (.obj 2 ((k,.str nm)::ds))):∃a C dx fs,v=.ref a/\H a=some (.ins C dx fs)/\XN K nm C/\iq K G fs ds/\RG K G v (.obj 2 ((k,.str nm)::ds)):=by
 rcases h with h|⟨a,rfl,h⟩
 .cases h with
 |scl s=>cases s
 |@ref a _ e=>have e':=e;cases gk _ _ e with
  |ins r n f=>exact⟨_,_,_,_,rfl,r,n,f,.ref e'⟩
 |kc k=>cases k
 .cases h.ob
def gD(K:W.Frag)(f:Str)(hit:Str->Bool):Prop:=∀nm C,hit nm=true->XN K nm C->Cls K C/\lv K C f
def dA(hit:Str->Bool)(f:Str):D->Option D
|.obj 2 ((_,.str nm)::ds)=>if hit nm=true then ds.lookup f else none
|_=>none
variable{X:Cx}{g:GE}{m:List Md}{e o:Expr}{es:List Expr}{fl:aQ->Res (List D)}{fe fo:FE}{f nm mt:Str}{C:Addr}{p pos apos:Pos}{hit:Str->Bool}
section
variable{ro:Bool}{mb:List Md}{a:Expr}{x:Str}{p2 np:Pos}
theorem i7(hx:gD X.K f hit)(he:SB X g m e fe)(hb:Qa9 e f X.env (eval e X.env)=eval e X.env:=by rfl):SE X g m (.Attribute e f pos) (f1 fe (dA hit f)):=by
 refine PE.imp (MM he hb) fun σ H Q ⟨r,G,si,q⟩=>⟨r,G,si,cJ (cN q) fun d q1 v G1 H1 w1 r1=>?_⟩
 obtain⟨d',e',q2⟩:=dU q1;unfold dA at e';split at e'
 .rename_i k nm ds;split at e'
  .rename_i hh;obtain⟨a,C,dx,fs,rfl,ha,xn,rf,_⟩:=RB.ins w1.ok r1;obtain⟨cl,na⟩:=hx nm C hh xn;obtain⟨v',l,rv⟩:=rf.get e';exact⟨a,C,dx,fs,v',rfl,ha,cl,na,l,q2 v' G1 H1 w1 rv⟩
  .cases e'
 .cases e'
def Ap(tab:Str->Option Bool):D->Option D
|.obj 2 ((_,.str nm)::_)=>(tab nm).map .bl
|_=>none
def qm(K:W.Frag)(c:a_)(tab:Str->Option Bool):Prop:=∀nm b C,tab nm=some b->XN K nm C->Cls K C/\W.findIn K (.ref C) "__class__" = some (some (.builtin "object.__class__")) /\W.specialIn K (.builtin "object.__class__") "__get__" = some (some (.builtin "getset_descriptor.__get__"))/\W.takesIn K (.builtin "object.__class__")=some true/\W.mroIn K C (.type "object")=some true/\W.kitOne K (.ref C) c=some b
theorem Rr{c:a_}{cv:V}(U:∀u,bH cv u->u=c):gL X (.builtin "isinstance") (fun xs H Q=>∃x t b,xs=[x,cv]/\TyOf X.K H x t/\W.kitOne X.K t c=some b/\Q (.bl b) H):=by intro pz s σ H xs us Q I r h;obtain⟨x,t,b,rfl,ty,e,q⟩:=h;obtain⟨u,w',rfl,rx,ry⟩:=uJ r;have:=U _ ry;subst this;exact SD I rx ty e fun tk=>⟨.bl b,H,I.tok tk,rfl,q⟩
theorem N9{T:Addr}{tab:Str->Option Bool}(Y:X.mg x=some (.ref T))(hx:qm X.K (.ref T) tab)(Z:Gl X x)(hg:Gl X "isinstance")(hm:X.mg "isinstance" = none)(he:SB X g m e fe)(hd:(x==("__debug__" : Str))=false:=by decide)(U:h_ [e,.Name x p2] X.env=(false,eval e X.env)::h_ [.Name x p2] X.env:=by rfl)(BT:h_ [.Name x p2] X.env=(false,eval (.Name x p2) X.env)::h_ [] X.env:=by rfl)(hpl:(backTo pos (h_ [.Name x p2] X.env)).any (·.1)=false:=by rfl):SE X g m (.Call (.Name "isinstance" p) [e,.Name x p2] [] pos) (f1 fe (Ap tab)):=by
 refine PE.imp (rJ (Rr (c:=.ref T) (cv:=.ref T) fun u h=>h) hg hm (by first|exact Qc0|rfl) (jt he (jt (Be (v:=.ref T) Z Y rfl hd) lB BT) U) (by decide) (by decide) U hpl) fun σ H Q ⟨r,G,si,q⟩=>⟨r,G,si,cJ (cN q) fun d q1 v G1 H1 w1 r1=>?_⟩
 obtain⟨d',e',q2⟩:=dU q1;unfold Ap at e';split at e'
 .rename_i k nm ds;cases ht:tab nm with
 |none=>rw[ht]at e';cases e'
 |some b=>rw[ht]at e';cases e';obtain⟨a,C,dx,fs,rfl,ha,xn,rf,_⟩:=RB.ins w1.ok r1;obtain⟨cl,h1,h2,h3,h4,h5⟩:=hx nm b C ht xn;exact⟨.ref a,.ref C,b,rfl,.ins ha cl h1 h2 h3 h4,h5,q2 _ G1 H1 w1 (.scl (.bl _))⟩
 .cases e'
end
theorem Ox{r:Res D}{q:D->Prop}{x:D->Prop}(h:fin (qf r) q x):fin r q fun _=>False:=by cases r with
|ok a=>exact h
|exc e=>exact(show False from h).elim
|stuck=>exact(show False from h).elim
def sL(K:W.Frag)(ro:Bool)(nm:Str)(ms:List Md)(F:List D->Res D):Sp:=fun vs H Q _=>∃G k fs ds,cp K G H/\ArgsOk K G H (.sh::ms) vs (.obj 2 ((k,.str nm)::fs)::ds)/\fin (F (.obj 2 ((k,.str nm)::fs)::ds)) (fun d=>∀v G' H',Grow K G H G' H'->RV ro K H G' H' v d->Q v H') fun _=>False
structure CalleeM(P:H_)(w:Z_)(K:W.Frag)(mg:Str->Option a_)(base:Heap)(mt:Str)(ps:List Str)(k:Nat)(hit:Str->Bool)(ms:List Md)(F:List D->Res D):Prop where
 ex:∀nm C,hit nm=true->XN K nm C->Cls K C/\∃f fd,Meth K C mt f/\g5 K fd ps []/\FnOk P w K mg base dm k f fd ps (sL K false nm ms F)
theorem Ol{K:W.Frag}{ro:Bool}{nm:Str}{ms:List Md}{F F':List D->Res D}(hF:∀k fs ds,F' (.obj 2 ((k,.str nm)::fs)::ds)=F (.obj 2 ((k,.str nm)::fs)::ds)){vs:List V}{H:Hp}{Q:VK}{E:XK}(h:sL K ro nm ms F' vs H Q E):ki K ro (.sh::ms) F vs H Q E:=by obtain⟨G,k,fs,ds,gk,rs,q⟩:=h;rw[hF]at q;exact⟨G,_,gk,rs,q⟩
def jN(hit:Str->Bool)(F F':List D->Res D):List D->Res D
|.obj 2 ((k,.str nm)::fs)::ds=>if hit nm=true then F (.obj 2 ((k,.str nm)::fs)::ds)else F' (.obj 2 ((k,.str nm)::fs)::ds)
|_=>.stuck
variable{P:H_}{w:Z_}{K:W.Frag}{mg:Str->Option a_}{base:Heap}{ps:List Str}{ms:List Md}{F:List D->Res D}
section
variable{k:Nat}{hit':Str->Bool}{F':List D->Res D}
theorem HY{nm:Str}{vs:List V}{H:Hp}{Q:VK}{E:XK}(hF:∀k fs ds,F' (.obj 2 ((k,.str nm)::fs)::ds)=F (.obj 2 ((k,.str nm)::fs)::ds))(h:sL K false nm ms F' vs H Q E):sL K false nm ms F vs H Q E:=by obtain⟨G,k,fs,ds,gk,rs,q⟩:=h;rw[hF]at q;exact⟨G,k,fs,ds,gk,rs,q⟩
theorem CalleeM.mono{j:Nat}(c:CalleeM P w K mg base mt ps j hit ms F)(h:j<=k):CalleeM P w K mg base mt ps k hit ms F:=⟨fun nm C hh xn=>let⟨cl,f,fd,m,b,fo⟩:=c.ex nm C hh xn;⟨cl,f,fd,m,b,fo.mono h⟩⟩
theorem CalleeM.or(c:CalleeM P w K mg base mt ps k hit ms F)(c':CalleeM P w K mg base mt ps k hit' ms F'):CalleeM P w K mg base mt ps k (fun nm=>hit nm || hit' nm) ms (jN hit F F'):=by refine⟨fun nm C hh xn=>?_⟩;cases e:hit nm with
|true=>obtain⟨cl,f,fd,m,b,fo⟩:=c.ex nm C e xn;refine⟨cl,f,fd,m,b,fo.imp fun vs H Q E h=>HY (fun k fs ds=>?_) h⟩;show(if hit nm=true then _ else _)=_;rw[if_pos e]
|false=>rw[e,Qeo]at hh;obtain⟨cl,f,fd,m,b,fo⟩:=c'.ex nm C hh xn;refine⟨cl,f,fd,m,b,fo.imp fun vs H Q E h=>HY (fun k fs ds=>?_) h⟩;show(if hit nm=true then _ else _)=_;rw[if_neg (by rw[e];exact d_)]
end
def iK(hit:Str->Bool)(mt:Str)(fo:FE)(fl:aQ->Res (List D))(F:List D->Res D):FE:=fun r=>(fo r).bind fun d=>match d with
|.obj 2 ((k,.str nm)::fs)=>if hit nm=true/\fs.lookup mt=none then(fl r).bind fun ds=>qf (F (.obj 2 ((k,.str nm)::fs)::ds))else .stuck
|_=>.stuck
section
variable{k:Nat}
theorem j8{pl:Sem Bool}(c:CalleeM X.prog X.w X.K X.mg X.base mt ps k hit ms F)(hr:Room k X.A)(ho:SE X g m o fo)(ha:iZ X g m (e::es) ms fl)(U:h_ (e::es) X.env=(false,eval e X.env)::h_ es X.env:=by rfl)(hpl:(backTo pos (h_ es X.env)).any (·.1)=false:=by rfl)(ht:eval (.Call (.Attribute o mt apos) (e::es) [] pos) X.env=(do
   let ov <-eval o X.env
   QdJ apos.atName
   let(f,first) <-Qcz [ov] (QdC ov mt pl)
   QeK pos f first (backTo pos (h_ (e::es) X.env)) (Qdf pos (QbY [] X.env))):=by rfl):SE X g m (.Call (.Attribute o mt apos) (e::es) [] pos) (iK hit mt fo fl F):=by
 intro pz s σ H Q I ⟨r,G,si,q⟩;refine Kb (pl:=pl) ho I ⟨r,G,si,cJ (cN q) fun d q1 v G1 H1 w1 r1=>?_⟩ ht;split at q1
 .rename_i k nm fs;split at q1
  .rename_i hh;obtain⟨a,C,dx,fv,rfl,Y,xn,rf,rg⟩:=RB.ins w1.ok r1.rb;obtain⟨cl,f,fd,me,bd,Z⟩:=c.ex nm C hh.1 xn;refine⟨a,C,dx,fv,f,rfl,Y,cl,me,rf.no hh.2,fun s1 I1=>?_⟩;refine W.callWith_K (first:=[.ref a]) (h₀:=X.base) I.ok.mod.kin me.kp (bR (ha pos pz s1 σ H1 (fun vs H2=>sL X.K false nm ms F (.ref a::vs) H2 Q (fun _ _ _=>False)) I1 ⟨r,G1,si.grow w1,?_⟩) fun us s2 ⟨vs,H2,I2,r2,q2⟩=>⟨I2.kIn,?_⟩) U hpl
   .cases ez:fl r with
   |ok zs=>rw[ez,bind_ok]at q1;intro vs G2 H2 w2 rs;have q3:=Ox q1;exact⟨G2,_,fs,zs,w2.ok,.sh (rg.mono w2.ge) rs,cJ q3 fun d k v G3 H3 w3 rv=>k v G3 H3 (w1.trans (w2.trans w3)) rv⟩
   |exc x=>rw[ez]at q1;exact XW.grow q1 w1
   |stuck=>rw[ez]at q1;exact q1
   .exact FU (dvs:=[]) (ds:=[]) (us:=.ref a::us) (vs:=.ref a::vs) Z hr bd .nil qI I2 (.cons rfl r2) (by rw[W_];exact q2)
  .exact q1.elim
 .exact q1.elim
end
structure MethAt(K:W.Frag)(nm mt qual:Str)(st:Stmt):Prop where
 ex:∃C f fd,(∀C',XN K nm C'->C'=C)/\Cls K C/\Meth K C mt f/\Fun K mt qual st f fd
theorem mY{nm mt qual:Str}{st:Stmt}{N ps:List Str}{k:Nat}{ms:List Md}{fs:FS}{m':List Md}(A:MethAt K nm mt qual st)(S:FnScope N ps (aF st))(hms:ms.length+1=ps.length)(hb:∀(kV doc pm:a_)(an:Option Addr)(cdv ct:a_)(us:List a_),us.length=ps.length->QbN (W.fnOf mt qual (aU st) (aN st) (aF st) .none kV doc pm an cdv ct) ⟨us,[]⟩=pure (ps.zip us))(U:∀(f:Addr)(cdv:a_)(A:Qag)(outer:List Env)(s:c_)(H:Hp)(g:GE)(E:XK),Room k (A.deeper (QbJ qual (aF st) s.heap.objs.size f cdv)) ->fF (cw dm P w K mg base N qual (aF st) f cdv A outer s H E).nox g false [] (hX N.length (.sh::ms)) (aN st) fs m'):CalleeM P w K mg base mt ps (k+1) (fun x=>x==nm) ms fun ds=>aT false (fs (bL N.length ds)):=by obtain⟨C,f,fd,hC,cl,me,F⟩:=A.ex;refine⟨fun Y C' hh xn=>?_⟩;have e:=QaQ hh;subst e;have:=hC C' xn;subst this;exact⟨cl,f,fd,me,F.binds hb,(AN F S (by rw[K_];exact hms) (U f)).imp fun vs H Q E h=>Ol (fun _ _ _=>rfl) h⟩
def pd(f:Str)(v:D):List (Str×D)->List (Str×D)
|[]=>[(f,v)]
|(g,x)::r=>if g=f then(g,v)::r else(g,x)::pd f v r
theorem iq.put{K:W.Frag}{G:GH}{f:Str}{y:V}{d:D}(r:RG K G y d){fs:List (Str×V)}{ds:List (Str×D)}(h:iq K G fs ds):iq K G (L2.putF f y fs) (pd f d ds):=by induction h with
|nil=>exact .cons ⟨rfl,r⟩ .nil
|@cons p q fs ds r0 t ih=>
  obtain⟨a,v⟩:=p;obtain⟨b,d'⟩:=q;have r1:a=b:=r0.1;subst r1;show iq K G (if a=f then(a,y)::fs else(a,v)::L2.putF f y fs) (if a=f then(a,d)::ds else(a,d')::pd f d ds);by_cases z:a=f
  .rw[if_pos z,if_pos z];exact .cons ⟨rfl,r⟩ t
  .rw[if_neg z,if_neg z];exact .cons r0 ih
theorem iq.mono{K:W.Frag}{G G':GH}{fs:List (Str×V)}{ds:List (Str×D)}(h:iq K G fs ds)(ge:∀a d,G a=some d->G' a=some d):iq K G' fs ds:=Paired.mono (fun _ _ r=>⟨r.1,r.2.mono ge⟩) h
theorem iq.len{K:W.Frag}{G:GH}{fs:List (Str×V)}{ds:List (Str×D)}(h:iq K G fs ds):fs.length=ds.length:=by induction h with
|nil=>rfl
|cons _ _ ih=>rw[K_,K_,ih]
section
variable{r:aQ}{G G':GH}{σ:L2.St}{H H':Hp}{x dx:Addr}{fs fs':List (Str×V)}
theorem SI.ins(s:SI X g m r G σ H)(e:H x=some (.ins C dx fs))(hg:g.h0 x=none)(hG:G x=none):SI X g m r G σ (aY H x (.ins C dx fs')):=by
 have ne:∀b d,G b=some d->b≠x:=fun b d h z=>by subst z;rw[hG]at h;cases h
 have own:∀{b:Addr}{d:D},Own X.K G H b d->b≠x:=fun{b d} o z=>by subst z;cases o.ob with
 |lst r _=>rw[e]at r;cases r
 |dic r _=>rw[e]at r;cases r
 have ow:∀{b:Addr}{d:D},Own X.K G H b d->Own X.K G (aY H x (.ins C dx fs')) b d:=fun{b d} o=>⟨o.un,o.ob.mono (fun _ _ z=>z) fun u hu=>by rw[bT (own o)];exact hu⟩
 refine⟨fun b d h=>(s.gok b d h).mono (fun _ _ z=>z) fun u hu=>by rw[bT (ne b d h)];exact hu,fun b u h=>?_,s.ge,s.gf,s.lm,s.lr,s.sh,fun i d h1 h2=>?_,fun i d h1 h2=>?_,s.dis,s.lk⟩
 .rw[bT (fun z=>by subst z;rw[hg]at h;cases h)];exact s.old b u h
 .obtain⟨a,q1,q2,q3⟩:=s.ow i d h1 h2;exact⟨a,q1,ow q2,q3⟩
 .obtain⟨v,q1,q2⟩:=s.bw i d h1 h2;refine⟨v,q1,?_⟩;rcases q2 with q2|⟨a,rfl,q2,q3⟩
  .exact .inl q2
  .exact .inr ⟨a,rfl,ow q2,q3⟩
end
abbrev FN:=aQ->List (Str×D)->Res (List (Str×D))
structure NI(X:Cx)(g:GE)(m:List Md)(x C dx:Addr)(r:aQ)(ds:List (Str×D))(G:GH)(σ:L2.St)(H:Hp):Prop where
 si:SI X g m r G σ H
 me:σ[0]? = some (some (V.ref x))
 ob:∃fs,H x=some (.ins C dx fs)/\iq X.K G fs ds
 od:H dx=some (.own x)
 gx:G x=none
 hx:g.h0 x=none
 hd:g.h0 dx=none
def EB(X:Cx)(g:GE)(m:List Md)(x C dx:Addr)(r:aQ)(G:GH)(σ:L2.St)(E:Ends):Res (List (Str×D))->Prop
|.ok ds=>∀G' H',cF G G'->NI X g m x C dx r ds G' σ H'->E.nx σ H'
|_=>False
def tN(X:Cx)(g:GE)(m:List Md)(C:Addr)(f:FN):TS:=fun D σ H=>∃r ds G x dx,NI X g m x C dx r ds G σ H/\EB X g m x C dx r G σ D (f r ds)
def Ae(X:Cx)(g:GE)(m:List Md)(C:Addr)(st:List Stmt)(f:FN):Prop:=eD X st (tN X g m C f)
def LJ{α:Type}(x:Res α)(k:α->Res (List (Str×D))):Res (List (Str×D)):=match x with
|.ok a=>k a
|_=>.stuck
section
variable{x0:Str}{pos':Pos}{sts:List Stmt}{s2:FN}
theorem uB:Ae X g m C [] fun _ ds=>.ok ds:=eD.imp HJ fun D σ H ⟨r,ds,G,x,dx,ni,q⟩=>q G H (cF.refl G) ni
def jF(f:Str)(fe:FE)(s2:FN):FN:=fun r ds=>LJ (fe r) fun d=>if ds.length<900 then s2 r (pd f d ds)else .stuck
theorem OM{α:Type}{x:Res α}{k:α->Res (List (Str×DL.D))}{D:Ends}{r:aQ}{a dx:Addr}{G:GH}{σ:L2.St}{Z:DL.D->Prop}(h:EB X g m a C dx r G σ D (LJ x k)):fin x (fun y=>EB X g m a C dx r G σ D (k y)) Z:=by cases x with
|ok a=>exact h
|exc e=>exact(show False from h).elim
|stuck=>exact h
theorem py(cl:Cls X.K C)(na:lv X.K C f)(hN:X.N[0]? = some x0)(hv:iY X.env.scope x0)(he:SE X g m e fe)(h2:Ae X g m C sts s2)(hd:(x0==("__debug__" : Str))=false:=by decide)(Y:(x0==("__classdict__" : Str))=false:=by decide)(hs:Qb5 e (some (.Attribute (.Name x0 p) f pos')) pos.line X.env=pure false:=by rfl):Ae X g m C (.Assign [.Attribute (.Name x0 p) f pos'] e pos::sts) (jF f fe s2):=by
 refine eD.imp (BJ (M1 (jR hN hv hd Y) he hs) h2) fun D σ H ⟨r,ds,G,x,dx,ni,q⟩=>⟨r,G,ni.si,cJ (OM q) fun d q1 v G1 H1 w1 r1=>?_⟩
 split at q1
 .rename_i hl;obtain⟨fs,hx,rf⟩:=ni.ob;have U:=w1.he _ _ hx;refine⟨_,ni.me,x,C,dx,fs,rfl,U,cl,na,by rw[rf.len];omega,r,pd f d ds,G1,x,dx,⟨(ni.si.grow w1).ins U ni.hx ?_,ni.me,⟨_,cV,(rf.mono w1.ge).put r1⟩,?_,?_,ni.hx,ni.hd⟩,?_⟩
  .rw[w1.gf x (by rw[hx];simp)];exact ni.gx
  .rw[bT (fun z=>by have h1:=w1.he _ _ ni.od;rw[z,U]at h1;cases h1)];exact w1.he _ _ ni.od
  .rw[w1.gf x (by rw[hx];simp)];exact ni.gx
  .cases ez:s2 r (pd f d ds)with
  |ok zs=>rw[ez]at q1;exact fun G' H' le n'=>q1 G' H' (cF.trans w1.ge le) n'
  |exc e=>rw[ez]at q1;exact q1
  |stuck=>rw[ez]at q1;exact q1
 .exact(show False from q1).elim
end
abbrev nu:=List D->Res (List (Str×D))
def sM(K:W.Frag)(C:Addr)(nm:Str)(ms:List Md)(F:nu):Sp:=fun vs H Q _=>∃G H1 x dx us ds,H=aY (aY H1 dx (.own x)) x (.ins C dx [])/\H1 x=none/\H1 dx=none/\dx≠x/\vs=.ref x::us/\cp K G H1/\ArgsOk K G H1 ms us ds /\fin (F ds) (fun fd=>∀G' H',Grow K G H1 G' H'->G' x=some (iD nm fd)->Q .non H') fun _=>False
structure CalleeN(P:H_)(w:Z_)(K:W.Frag)(mg:Str->Option a_)(base:Heap)(x nm:Str)(ps:List Str)(dv:List a_)(k:Nat)(ms:List Md)(F:nu):Prop where
 ex:∃C f fd,mg x=some (.ref C)/\Mk K C f/\g5 K fd ps dv/\FnOk P w K mg base dm k f fd ps (sM K C nm ms F)
def jm(nm:Str)(fl:aQ->Res (List D))(dds:List D)(F:nu):FE:=fun r=>(fl r).bind fun ds=>match F (ds++dds)with
|.ok fd=>.ok (iD nm fd)
|_=>.stuck
section
variable{ms':List Md}{x:Str}{k:Nat}{F:nu}{dvs:List V}{dv:List a_}{dds:List D}
theorem make_core{C:Addr}{vs:List V}{zs:List D}{G:GH}{H:Hp}{Q:VK}(gk:cp X.K G H)(rs:ArgsOk X.K G H ms vs zs)(hsc:Paired Scl dvs dds)(q:fin (match F (zs++dds)with|.ok fd=>Res.ok (iD nm fd)|_=>.stuck) (fun d=>∀v G' H',Grow X.K G H G' H'->RG X.K G' v d->Q v H') fun _=>False):∀a dx,H a=none->H dx=none->dx≠a->sM X.K C nm (ms++p_ dds.length .sh) F (.ref a::(vs++dvs)) (aY (aY H dx (.own a)) a (.ins C dx [])) (fun v H2=>v=.non/\Q (.ref a) H2) E0:=by intro a dx h1 h2 h3;refine⟨G,H,a,dx,vs++dvs,zs++dds,rfl,h1,h2,h3,rfl,gk,rs.app hsc,?_⟩;cases ez:F (zs++dds)with
|ok fd=>rw[ez]at q;exact fun G' H' w hg=>⟨rfl,q _ G' H' w (.ref hg)⟩
|exc e=>rw[ez]at q;exact(show False from q).elim
|stuck=>rw[ez]at q;exact(show False from q).elim
theorem pE(c:CalleeN X.prog X.w X.K X.mg X.base x nm ps dv k ms' F)(hr:Room (k+1) X.A)(ha:iZ X g m (e::es) ms fl)(hms:ms'=ms++p_ dds.length .sh:=by rfl)(hg:Gl X x:=by rfl)(hd:aP dvs dv:=by exact .nil)(hsc:Paired Scl dvs dds:=by exact .nil)(U:(x==("__debug__" : Str))=false:=by decide)(he:h_ (e::es) X.env=(false,eval e X.env)::h_ es X.env:=by rfl)(hpl:(backTo pos (h_ es X.env)).any (·.1)=false:=by rfl):SE X g m (.Call (.Name x p) (e::es) [] pos) (jm nm fl dds F):=by
 subst hms;obtain⟨C,f,fd,h1,h2,h3,h4⟩:=c.ex;refine PE.imp (Qg h2 h4 hr hg h1 h3 hd qI ha U he hpl) fun σ H Q ⟨r,G,si,q⟩=>⟨r,G,si,?_⟩
 unfold jm at q;cases ez:fl r with
|ok zs=>rw[ez,bind_ok]at q;intro vs G' H' w' rs;refine make_core w'.ok rs hsc (cJ (wR q ?_) fun d k v G2 H2 w2 rv=>k v G2 H2 (w'.trans w2) rv);intro e he;split at he <;> cases he
|exc x=>rw[ez]at q;exact q
|stuck=>rw[ez]at q;exact q
end
theorem R3{X:Cx}{N:List Str}{ms:List Md}{us:List V}{ds:List D}{G:GH}{H:Hp}{x C dx:Addr}(gk:cp X.K G H)(rs:ArgsOk X.K G H ms us ds)(hn:ms.length+1<=N.length)(h1:H x=none)(h2:H dx=none)(h3:dx≠x):NI X ⟨G,H,fun _=>none⟩ (hX N.length (.sh::ms)) x C dx (none::(ds.map some++p_ (N.length-(ds.length+1)) none)) [] G (L2.cz N (.ref x::us)) (aY (aY H dx (.own x)) x (.ins C dx [])):=by
 have s0:=rC (X:=X) (N:=N) (ms:=.sh::ms) (vs:=.non::us) (ds:=.non::ds) gk (.sh (.scl .non) rs) (by simpa using hn);have e1:(L2.cz N (.ref x::us)).length=(L2.cz N (.non::us)).length:=by unfold L2.cz;simp
 have U:∀i:Nat,i≠0->(L2.cz N (.ref x::us))[i]? = (L2.cz N (.non::us))[i]?:=fun i hi=>by
  obtain⟨j,rfl⟩:∃j,i=j+1:=⟨i-1,by omega⟩
  unfold L2.cz;simp
 have er:∀i d,(none::(ds.map some++p_ (N.length-(ds.length+1)) none):aQ)[i]? = some (some d)->i≠0/\(bL N.length (.non::ds))[i]? = some (some d):=fun i d h=>by cases i with
 |zero=>simp at h
 |succ j=>refine⟨by omega,?_⟩;unfold bL;simpa using h
 have w:Grow X.K G H G (aY (aY H dx (.own x)) x (.ins C dx [])):=by
  have hx:aY H dx (.own x) x=none:=by rw[bT h3.symm];exact h1
  have he:∀b o,H b=some o->aY (aY H dx (.own x)) x (.ins C dx []) b=some o:=fun b o hb=>by rw[bT (fun z=>by rw[z,h1]at hb;cases hb),bT (fun z=>by rw[z,h2]at hb;cases hb)];exact hb
  exact⟨fun b d hb=>(gk b d hb).mono (fun _ _ z=>z) (fun u hu=>he b u hu),he,fun _ _ z=>z,fun _ _=>rfl⟩
 have s1:SI X ⟨G,H,fun _=>none⟩ (hX N.length (.sh::ms)) (none::(ds.map some++p_ (N.length-(ds.length+1)) none)) G (L2.cz N (.ref x::us)) H:=by
  refine⟨s0.gok,s0.old,s0.ge,s0.gf,by rw[e1];exact s0.lm,?_,fun i d h hm=>?_,fun i d h hm=>?_,fun i d h hm=>?_,fun i j a d e hij hi hj=>?_,fun i o h=>(nomatch h)⟩
  .rw[e1,<-s0.lr];unfold bL;simp
  .obtain⟨z,q⟩:=er i d h;rw[U i z];exact s0.sh i d q hm
  .obtain⟨z,q⟩:=er i d h;rw[U i z];exact s0.ow i d q hm
  .obtain⟨z,q⟩:=er i d h;rw[U i z];exact s0.bw i d q hm
  .obtain⟨z,q⟩:=er i d hi;obtain⟨z',q'⟩:=er j e hj;rw[U i z,U j z'];exact s0.dis i j a d e hij q q'
 refine⟨s1.grow w,?_,⟨[],cV,.nil⟩,by rw[bT h3,cV],gk.isN h1,h1,h2⟩;unfold L2.cz;simp
end DL
namespace DL
open PySem PySem.Spec PyProof.Rows L2 PySem.W PySem.Calls
def fN(K:W.Frag)(C:Addr):Option (List a_×Str):=match K.lookup C with
|some ⟨.type "type",_,.cls cd,sl⟩=>(match cd.mro,sl.toList with
 |.ref C'::bm,[_,_,_,_,some (.builtin _),_]=>if (C'==C && ! cd.hasDel)=true then some (bm,cd.name)else none
 |_,_=>none)
|_=>none
theorem AE{K:W.Frag}{C:Addr}{bm:List a_}{nm:Str}(h:fN K C=some (bm,nm)):XO K C bm/\XN K nm C:=by
 unfold fN at h;split at h
 .rename_i dict cd sl hk;split at h
  .rename_i C' bm' k0 k1 k2 k3 n k5 hm hs;split at h
   .rename_i hc;cases h;simp only[M_,beq_iff_eq,QbT]at hc;obtain⟨rfl,hd⟩:=hc;refine⟨?_,_,cd,hk,rfl,rfl⟩;obtain⟨Y,bs,mro,ns,q,hdct,sn,sub,ab,col,U⟩:=cd;have e1:mro=Value.ref C'::bm:=hm;have e2:U=false:=hd;subst e1 e2;have e3:sl = #[k0,k1,k2,k3,some (Value.builtin n),k5]:=by cases sl with
    |mk l=>exact congrArg Array.mk hs
    subst e3;exact⟨_,_,_,_,_,_,_,_,_,_,_,_,_,_,_,_,hk⟩
   .cases h
  .cases h
 .cases h
def fm(K:W.Frag)(nm:Str)(c:Addr):Bool:=K.all fun e=>match e.2.data with
|.cls cd=>cd.name != nm || e.1==c
|_=>true
structure CF(K:W.Frag)(nm:Str)(c:Addr)(bm:List a_):Prop where
 xa:XA K c bm
 xn:XN K nm c
 un:fm K nm c=true
theorem sE{K:W.Frag}{nm:Str}{c:Addr}{bm:List a_}(o:fN K c=some (bm,nm))(be:bm.contains (Value.type "BaseException")=true)(bo:bm.contains (Value.type "object")=true)(ga:Qdl K (.ref c) "__getattribute__" = some (some (.builtin "BaseException.__getattribute__")))(gn:Qdl K (.ref c) "__getattr__" = some none)(gc:Qdl K (.ref c) "__class__" = some (some (.builtin "object.__class__")))(gg:specialIn K (.builtin "object.__class__") "__get__" = some (some (.builtin "getset_descriptor.__get__")))(gt:takesIn K (.builtin "object.__class__")=some true)(un:fm K nm c=true):CF K nm c bm:=⟨⟨(AE o).1,be,bo,ga,gn,gc,gg,gt⟩,(AE o).2,un⟩
theorem CF.eq{K:W.Frag}{nm:Str}{c C:Addr}{bm:List a_}(f:CF K nm c bm)(h:XN K nm C):C=c:=XN.uniq h f.un
theorem D9{K:W.Frag}{T:Addr}{hit:Str->Bool}(l:List (Str×Addr×List a_))(h:∀q∈l,CF K q.1 q.2.1 q.2.2/\(Value.ref q.2.1::q.2.2).contains (.ref T)=true)(hh:∀nm,hit nm=true->∃q∈l,q.1=nm):j5 K T hit:=by intro nm C hn xn;obtain⟨q,hq,rfl⟩:=hh nm hn;obtain⟨f,hc⟩:=h q hq;have:=f.eq xn;subst this;exact⟨_,f.xa.ob,hc⟩
theorem LA{K:W.Frag}{h:Heap}{mg:Str->Option a_}{x:Str}{C:Addr}(KX:K.In h)(G:h.Ns N_ mg)(a:W.nsIn K N_ x=some (some (.ref C)))(e:excIn K C fO "ValueError.__new__" = true):XC K mg x C:=⟨W.mg_of KX G a,e⟩
end DL
namespace DL
open PySem PySem.Spec PyProof.Rows L2
def iC(s:Stmt)(j:Nat):Stmt:=match s with
|.ClassDef _ _ _ b _ _ _ _ _ _ _=>b.getD j s
|_=>s
def sO:D->Bool
|.non=>true
|.bl _=>true
|.int _=>true
|.str _=>true
|_=>false
theorem RB.sc{K:W.Frag}{G:GH}{H:Hp}{v:V}{d:D}(h:RB K G H v d)(hd:sO d=true):RG K G v d:=by
 rcases h with h|⟨a,rfl,h⟩
 .exact h
 .cases h.ob with
 |lst _ _=>cases hd
 |dic _ _=>cases hd
def sQ(m:List Md)(f:FE):FS:=fun r=>iU m r (f r) fun d=>if sO d=true then .rt d else .stuck
section
variable{X:Cx}{g:GE}{m mb:List Md}{e:Expr}{f:FE}{pos:Pos}
theorem Ob(he:SB X g m e f):SS X g false mb m (.Return (some e) pos) (sQ m f) m:=by
 refine⟨rfl,PS.imp (AV he) fun D σ H ⟨r,G,si,q⟩=>⟨r,G,si,cJ (gP si rfl q) fun d q v G' H' w rv=>?_⟩⟩;split at q
 .rename_i hd;exact q v G' H' (si.grow w).grown (rv.sc hd)
 .exact q.elim
end
def iO(K:W.Frag)(C:Addr)(nm:Str):Bool:=match K.lookup C with
|some o=>(match o.data with
 |.cls cd=>cd.name==nm
 |_=>false)
|none=>false
theorem Me{K:W.Frag}{C:Addr}{nm:Str}(h:iO K C nm=true):XN K nm C:=by
 unfold iO at h;split at h
 .rename_i o e;split at h
  .rename_i cd ed;exact⟨o,cd,e,ed,QaQ h⟩
  .cases h
 .cases h
structure OC(K:W.Frag)(nm:Str)(C:Addr):Prop where
 un:∀C',XN K nm C'->C'=C
 xn:XN K nm C
 cl:Cls K C
theorem zX{K:W.Frag}{nm:Str}{C:Addr}(x:iO K C nm=true)(u:fm K nm C=true)(a:W.plainGet K C Qc9=true)(b:W.hasDictIn K C=true)(c:W.plainOver K C=true)(d:W.findIn K (.ref C) "__setattr__" = some (some (.builtin "object.__setattr__"))):OC K nm C:=⟨fun C' h=>XN.uniq h u,Me x,⟨a,b,c,d⟩⟩
theorem LC{K:W.Frag}{f:Str}{hit:Str->Bool}(l:List (Str×Addr))(h:∀q∈l,OC K q.1 q.2/\lv K q.2 f)(hh:∀nm,hit nm=true->nm∈l.map (·.1)):gD K f hit:=fun nm C hn xn=>by obtain⟨q,hq,rfl⟩:=A_.mp (hh nm hn);obtain⟨o,na⟩:=h q hq;rw[o.un C xn];exact⟨o.cl,na⟩
theorem VD{K:W.Frag}{c:a_}{tab:Str->Option Bool}(g1:W.specialIn K (.builtin "object.__class__") "__get__" = some (some (.builtin "getset_descriptor.__get__")))(g2:W.takesIn K (.builtin "object.__class__")=some true)(l:List (Str×Addr×Bool))(h:∀q∈l,OC K q.1 q.2.1/\W.findIn K (.ref q.2.1) "__class__" = some (some (.builtin "object.__class__"))/\W.mroIn K q.2.1 (.type "object")=some true/\W.kitOne K (.ref q.2.1) c=some q.2.2)(hh:∀nm b,tab nm=some b->∃q∈l,q.1=nm/\q.2.2=b):qm K c tab:=fun nm b C hn xn=>by obtain⟨q,hq,rfl,rfl⟩:=hh nm b hn;obtain⟨o,h1,h2,h3⟩:=h q hq;rw[o.un C xn];exact⟨o.cl,h1,g1,g2,h2,h3⟩
theorem nq{K:W.Frag}{nm mt qual:Str}{st:Stmt}{C f:Addr}{fd:QaE}(o:OC K nm C)(h1:W.findIn K (.ref C) mt=some (some (.ref f)))(h2:W.isFn K (.ref f)=true)(F:Fun K mt qual st f fd):MethAt K nm mt qual st:=⟨C,f,fd,o.un,o.cl,⟨h1,h2,F.kp⟩,F⟩
end DL
namespace DL
open PySem PySem.Spec PyProof.Rows L2 PySem.W
def tT{α:Type}(P:α->Prop):List α->Prop
|[]=>True
|a::l=>P a/\tT P l
abbrev QL:=List (Str×Addr×List a_)
end DL
namespace DL
open PySem PySem.Spec PyProof.Rows L2 PySem.W PySem.Calls
abbrev eM(C t:Addr)(od:Option Addr):Obj:={ cls:=.ref C,dict:=od,data:=.fields #[.ref t,.none,.none,.none,.bool false,.none] }
variable{prog:H_}{w:Z_}{A:Qag}{E:a_->c_->Prop}{h:Heap}{gs:Array GenState}{os:OsState}{nm ql:Str}{C N:Addr}{bm sub:List a_}{sn:List Str}{ab:Bool}{dd:Option Addr}{k0 k1 k2 k3 k5:Option a_}{nw:String}
section
variable{dr:Drawn}{tk:Nat}
variable{fI:Addr}{bs bB:List a_}{hdct:Bool}{col:Option Bool}{B ini:String}{mN:Str->Option a_}{us:List a_}{oI:Obj}
theorem Pt{Q:Fin->c_->Prop}(XF:ExcBaseFacts B nw ini bB)(T:QdS h bB bm)(hC:h.get? C=some (QaZ nm ql C N bs bm hdct sn sub ab col dd k0 k1 k2 k3 k5 nw))(hn:h.Ns N mN)(hi:mN "__init__" = some (.ref fI))(hf:h.get? fI=some oI)(Id:oI.cls=.type "function")(hz:us.length<=sizeLine)(hq:∀h' e,QfH h h' e (.ref C) us->x_ (E_ prog w) A (call (.ref fI) (.ref e::us)) (fun r s'=>r=.none/\Q (.done (.ret (.ref e))) s') E ⟨h',gs,dr,tk,os⟩):x_ (E_ prog w) A (QdL.«type.__call__» ⟨.ref C::us,[]⟩) Q E ⟨h,gs,dr,tk,os⟩:=by
 repeat (first
  |with_reducible refine QbU hC ?_
  |with_reducible refine wpAny_madeBy_exc hC ?_
  |wp_step)
 refine codeAny_call_builtin_code (Qez _ XF.quiet) (wpAny_check_new_subT XF T hC (codeAny_exc_new_subT XF T hC ?_ hz));show x_ _ _ _ _ _ _;have hk:∀b o,h.get? b=some o->((h.push { cls:=.type "tuple",data:=.seq us.toArray }).push (eM C h.objs.size none)).get? b=some o:=fun b o e=>i_ _ (i_ _ e);have hg:((h.push { cls:=.type "tuple",data:=.seq us.toArray }).push (eM C h.objs.size none)).get? (h.objs.size+1)=some (eM C h.objs.size none):=by heap_get
 have BT:((h.push { cls:=.type "tuple",data:=.seq us.toArray }).push (eM C h.objs.size none)).get? h.objs.size=some { cls:=.type "tuple",data:=.seq us.toArray }:=i_ _ (QeW rfl rfl);have U:=hk _ _ hC;have Y:=hk _ _ hf;have Cl:=hn.keeps hk;have T1:=T.keeps hk;have Z:(Value.ref C::bm).contains (.ref C)=true:=by simp
 unfold QeA
 repeat (first
  |with_reducible refine QbU hg ?_
  |(with_reducible refine QbA U ?_;rw[Z])
  |wp_step)
 show x_ _ _ (typeLookup (.ref C) _) _ _ _;refine wpAny_typeLookup_tail U Cl T1 XF.mroIs XF.init.lookup ?_;rw[hi];refine Qa8 (b_ ?_);unfold Qfe;refine b_ (wpAny_typeOf (T := "function") ⟨_,Y,Id⟩ ?_);rw[if_pos (by decide)];refine n_ (b_ (Qan (hq _ (h.objs.size+1) ⟨hk,Qbp (QcU _),h.objs.size,hg,Qbp (r_ _),BT⟩) (fun r s' hr=>?_) fun _ _ z=>z));obtain⟨rfl,hQ⟩:=hr
 wp_walk
 exact hQ
theorem Ry{Q:a_->c_->Prop}(XF:ExcBaseFacts B nw ini bB)(T:QdS h bB bm)(hC:h.get? C=some (QaZ nm ql C N bs bm hdct sn sub ab col dd k0 k1 k2 k3 k5 nw))(hn:h.Ns N mN)(hi:mN "__init__" = some (.ref fI))(hf:h.get? fI=some oI)(U:oI.cls=.type "function")(hz:us.length<=sizeLine)(hq:∀h' e,QfH h h' e (.ref C) us->x_ (E_ prog w) (A.under (.builtin "type.__call__" ⟨.ref C::us,[]⟩)) (call (.ref fI) (.ref e::us)) (fun r s'=>r=.none/\Q (.ref e) s') E ⟨h',gs,dr,tk,os⟩):x_ (E_ prog w) A (call (.ref C) us) Q E ⟨h,gs,dr,tk,os⟩:=by
 have f1:=tc_lookup;have f2:=tc_bind (.ref C);have hT:Shared.TypeIs ⟨h,gs,dr,tk,os⟩ (.ref C) "type" := ⟨_,hC,rfl⟩
 refine Qco (codeAny_of_tree ?_);show x_ _ _ (callAny (.ref C) _) _ _ _
 repeat (any_goals (first
  |assumption
  |with_reducible refine QbU hC ?_
  |wp_step))
 exact⟨rfl,codeAny_call_builtin_at (Qez _ (by decide+kernel)) entry_typeCall (wpAny_check_type_call_sub hC (Pt XF T hC hn hi hf U hz fun h' e hm=>hq h' e hm))⟩
theorem Sf{M:Qfs}{s:c_}{x:Sem a_}{env:Env}{Q:Flow->c_->Prop}(hb:bm.contains (.type "BaseException")=true)(hh:A.handled=none)(hx:x_ M A x (fun v s1=>∃e t od,v=.ref e/\s1.heap.get? C=some (QaZ nm ql C N bs bm hdct sn sub ab col dd k0 k1 k2 k3 k5 nw)/\s1.heap.get? e=some (eM C t od)/\E (.ref e) s1) E s):x_ M A (raiseStmt env (some x) none) Q E s:=by
 have U:(Value.ref C::bm).contains (.type "BaseException")=true:=by rw[Qcq,hb,QdT]
 unfold raiseStmt;refine b_ (Qan hx (fun v s1 h1=>?_) fun _ _ z=>z);obtain⟨e,t,od,rfl,hC,he,hE⟩:=h1;obtain⟨hp,g,d,tk,os⟩:=s1
 repeat (first
  |with_reducible refine QbU he ?_
  |with_reducible refine QbU hC ?_
  |(with_reducible refine QbA hC ?_;rw[U])
  |wp_step)
 exact wpAny_raiseNew_none hh hE
end
theorem Us{self:a_}{bm:List a_}{h:Heap}(T:QdS h fO bm):refuseLoop self "__setattr__" bm=pure ():=by induction T with
|base=>exact Qdy.passes self
|own _ _ _ _ ih=>rw[refuseLoop_ref];exact ih
variable{K:W.Frag}
section
variable{dr:Drawn}{tk:Nat}
variable{e t:Addr}{bs:List a_}{col:Option Bool}{name:Str}{v:a_}
theorem Eo{Q:Unit->c_->Prop}(kin:K.In h)(hC:h.get? C=some (QaZ nm ql C N bs bm true sn sub ab col dd k0 k1 k2 k3 k5 nw))(T:QdS h fO bm)(he:h.get? e=some (eM C t none))(g0:Qdl K (.ref C) "__setattr__" = some (some (.builtin "object.__setattr__")))(g1:Qdl K (.ref C) name=some none)(hq:∀h' dx ST,h.get? dx=none->h'.get? e=some (eM C t (some dx))->h'.Ns1 dx (fun y=>if y=name then some v else none)->(∀b o,b≠e->h.get? b=some o->h'.get? b=some o)->Q () ⟨h',gs,dr,ST,os⟩):x_ (E_ prog w) A (setAttr (.ref e) name v) Q E ⟨h,gs,dr,tk,os⟩:=by
 have f3:=Qdy.slot.bind (.ref e);have Tm:(Value.ref C::bm).contains (.type "object")=true:=by rw[Qcq,BM T (by decide+kernel),QdT]
 have L0:Looks (E_ prog w) h (QeA (.ref e) (.type "object")) true:=by intro A Q E s k q;unfold QeA;refine b_ (Qb9 (k _ _ he) ?_);obtain⟨hh,a1,a2,a3,a4⟩:=s;exact QbA (k _ _ hC) (by rw[Tm];exact q)
 unfold setAttr callSpecial? specialOf;refine b_ (wpAny_mkText ?_);refine b_ (b_ (b_ (Qb9 he (looks_findIn kin g0 _ _ _ _ (fun b o e=>e) ?_))));refine Qa8 ?_;rw[f3];refine b_ (n_ (b_ (Qco ?_)));have SF:=PySem.F.store_object;refine QcV SF.slot.plain SF.entry (@check_slot (E_ prog w) _ _ ⟨h,gs,dr,tk+1,os⟩ "object.__setattr__" "object" "__setattr__" (.ref e) [.str name tk,v] [] _ SF.kind SF.split L0 (SF.args (.ref e) (.str name tk) v) ?_);show x_ _ _ (QdL.«object.__setattr__» ⟨[.ref e,.str name tk,v],[]⟩) _ _ _;rw[osa_eq,refuse_eq];refine b_ (b_ (Qb9 he (b_ (wpAny_mroOf_exc hC ?_))));rw[refuseLoop_ref,Us T];refine n_ (b_ (Qb9 he (b_ (looks_findIn kin g1 _ _ _ _ (fun b o e=>e) ?_))));refine b_ ?_;show x_ _ _ (pure none) _ _ _;refine n_ ?_;have Z:(h.push { cls:=.type "dict",data:=.dict #[] }).get? e=some (eM C t none):=i_ _ he;have BT:e≠h.objs.size:=S_ (w_ he);refine b_ (n_ (b_ (b_ (Qde he (b_ ?_)))));unfold classData;refine b_ (wpAny_load hC (n_ ?_));refine b_ (wpAny_alloc' (b_ (wpAny_update' Z (n_ ?_))));have IO:((h.push { cls:=.type "dict",data:=.dict #[] }).update e fun o=>{ o with dict:=some h.objs.size }).get? h.objs.size=some { cls:=.type "dict",data:=.dict #[] }:=(Qar _ _ _ _ BT.symm).trans (QeW rfl rfl);have LT:((h.push { cls:=.type "dict",data:=.dict #[] }).update e fun o=>{ o with dict:=some h.objs.size }).Ns h.objs.size (fun _=>none):=⟨_,#[],_,IO,rfl,fun e he=>absurd he (by simp),fun _=>rfl⟩
 show x_ _ _ (QcO h.objs.size (.str name tk) name v) _ _ _;unfold QcO Qe7;refine b_ (n_ (b_ (wpAny_nsSet1 (QeJ LT) fun h' U hs=>?_)));obtain⟨oD,WW,Ty,Id,KK,LE⟩:=U.count (Within.cons name v Within.nil);refine b_ (wpAny_lookBehind Id (by rw[KK];exact pastItsLine_dict (L_ LE (by rw[K_,Qbo,Qaa];omega))) ?_);have Cl:h'.get? e=some (eM C t (some h.objs.size)):=(hs.2 e BT).trans (Qap _ Z rfl);refine n_ (show x_ _ _ (pure (some Value.none)) _ _ _ from n_ (n_ (hq h' h.objs.size _ (Qbp (r_ _)) Cl U fun b o hb Y=>?_)));exact(hs.2 b (S_ (w_ Y))).trans ((Qar _ _ _ _ hb).trans (i_ _ Y))
theorem Pi{x:a_}{Q:a_->c_->Prop}(hC:h.get? C=some (QaZ nm ql C N bs bm true sn sub ab col dd k0 k1 k2 k3 k5 "ValueError.__new__"))(T:QdS h fO bm)(he:h.get? e=some (eM C t none))(hq:∀h' t',h'.get? e=some (eM C t' none)->(∀b o,b≠e->h.get? b=some o->h'.get? b=some o)->Q .none ⟨h',gs,dr,tk,os⟩):x_ (E_ prog w) A (call (.builtin "ValueError.__init__") [.ref e,x]) Q E ⟨h,gs,dr,tk,os⟩:=by
 have XF:=Qdm;refine Qco (QcV XF.init.plain XF.initEntry (wpAny_check_init_subT XF T hC he rfl ?_))
 wp_walk
 refine hq _ h.objs.size ?_ fun b o hb U=>?_
 .rw[Qap _ (i_ _ he) rfl];rfl
 .rw[Qar _ _ _ _ hb];exact i_ _ U
end
def XR(e C:Addr)(od:Option Addr):Heap->Prop:=fun h=>∃t,h.get? e=some (eM C t od)
theorem XR.ok{P:H_}{w:Z_}{H:Hp}{h:Heap}{e C t:Addr}{od:Option Addr}(x:h.get? e=some (eM C t od)):cY P w H h e (.ext (XR e C od)):=⟨⟨t,x⟩,⟨_,x⟩,fun h1 h2 ⟨t,q⟩ k=>⟨t,k _ q⟩⟩
structure XI(K:W.Frag)(C:Addr)(bm:List a_)(f:Str):Prop where
 ob:∃N nm q bs sn sub ab col dd k0 k1 k2 k3 k5,K.lookup C=some (QaZ nm q C N bs bm true sn sub ab col dd k0 k1 k2 k3 k5 "ValueError.__new__")
 tl:∀h,K.In h->QdS h fO bm
 g0:Qdl K (.ref C) "__setattr__" = some (some (.builtin "object.__setattr__"))
 g1:Qdl K (.ref C) f=some none
structure XT(K:W.Frag)(T:Addr):Prop where
 sp:specialIn K (.ref T) "__getattribute__" = some (some (.builtin "type.__getattribute__"))
 rd:readsIn K T (.type "type")=true
 fc:findCls K (.ref T) (.type "type") "__init__" = some (.val (.builtin "ValueError.__init__"))
variable{e:Expr}{X:Cx}{pos:Pos}
section
variable{ps:List Expr}{te:TE}{n k:Nat}{c:L2.St->Prop}{v₁ v₂:Expr}
def PJ(X:Cx)(ps:List Expr)(n:Nat)(c:L2.St->Prop):Prop:=∀(pz:List (Addr×Obj))(s:c_)(σ:L2.St)(H:Hp)(out:Str)(Q:a_->c_->Prop),Inv X pz σ H s->c σ->out.length+n<=1000000 ->(∀x t s',x.length<=sizeLine->Inv X pz σ H s'->Q (.str x t) s')->x_ (E_ X.prog X.w) X.A (joinParts out (QcW ps X.env)) Q X.xe s
theorem MY:PJ X [] 0 c:=fun pz s σ H out Q I _ hl q=>by
 have hz:out.length<=sizeLine:=by rw[Qaa];omega
 exact joinParts_nil (q out _ _ hz (I.tok _)) hz
theorem HI(he:PE X e te)(hr:PJ X ps n c)(h:∀σ H Q,c σ->(∀x:Str,x.length<=k->Q (.str x) H)->te σ H Q)(hs:QcW (e::ps) X.env=eval e X.env::QcW ps X.env:=by rfl):PJ X (e::ps) (k+n) c:=fun pz s σ H out Q I hc hl q=>by
 rw[hs];refine joinParts_cons (bR (he pz s σ H (fun x H1=>∃y:Str,y.length<=k/\x=.str y/\H1=H) I (h σ H _ hc fun x hx=>⟨x,hx,rfl,rfl⟩)) fun u s1 ⟨x,H1,I1,r,y,hy,hx,hH⟩=>?_);subst hx hH;obtain⟨t,rfl⟩:=(show ∃t,u=Value.str y t from r)
 have e1:(out++y).length=out.length+y.length:=strLen_append _ _;refine⟨by rw[Qaa];omega,hr pz s1 σ _ _ Q I1 hc (by omega) q⟩
theorem MZ{a:Str}{j:Nat}{p:Pos}(hr:PJ X ps n c)(hs:QcW (.Constant (.str a) j p::ps) X.env=eval (.Constant (.str a) j p) X.env::QcW ps X.env:=by rfl):PJ X (.Constant (.str a) j p::ps) (a.length+n) c:=HI FF hr (fun σ H Q _ q=>q a (r_ _)) hs
theorem MN{tv:TE}(hv:PE X e tv):PE X (.FormattedValue e (-1) none pos) (fun σ H Q=>tv σ H fun x H1=>∃i:Int,x=.int i/\i.natAbs.log2<64/\∀z:Str,z.length<=65->Q (.str z) H1):=by
 intro pz s σ H Q I h;refine FormattedValue_plain (bR (hv pz s σ H _ I h) fun u s1 ⟨x,H1,I1,r,i,hx,hi,q⟩=>?_);subst hx;obtain⟨t,rfl⟩:=(show ∃t,u=Value.int i t from r)
 refine formatField_int_small (by omega) ⟨.str (C_ (toString i)),H1,I1.tok _,⟨_,rfl⟩,q _ ?_⟩;rw[PySem.ofString_length];exact int_text_length_le (by omega) hi
theorem MX{j:Nat}{x:Str}{p:Pos}(hN:X.N[j]? = some x)(hv:iY X.env.scope x)(hr:PJ X ps n c)(hc:∀σ,c σ->∃i:Int,σ[j]? = some (some (.int i))/\i.natAbs.log2<64)(hd:(x==("__debug__" : Str))=false:=by decide)(U:(x==("__classdict__" : Str))=false:=by decide)(hs:QcW (.FormattedValue (.Name x p) (-1) none pos::ps) X.env=eval (.FormattedValue (.Name x p) (-1) none pos) X.env::QcW ps X.env:=by rfl):PJ X (.FormattedValue (.Name x p) (-1) none pos::ps) (65+n) c:=HI (MN (jR hN hv hd U)) hr (fun σ H Q h q=>by obtain⟨i,e1,e2⟩:=hc σ h;exact⟨_,e1,i,rfl,e2,q⟩) hs
theorem VQ(h:PJ X (v₁::v₂::ps) n c)(hn:n<=1000000)(hs:QcW (v₁::v₂::ps) X.env=eval v₁ X.env::eval v₂ X.env::QcW ps X.env:=by rfl):PE X (.JoinedStr (v₁::v₂::ps) pos) (fun σ H Q=>c σ/\∀x:Str,x.length<=sizeLine->Q (.str x) H):=by
 intro pz s σ H Q I ⟨hc,q⟩;refine JoinedStr_many ?_;have:=h pz s σ H Qc9 (EP X pz σ Q) I hc (by show 0+n<=_;omega) fun x t s' hx I'=>⟨.str x,H,I',⟨t,rfl⟩,q x hx⟩
 rw[hs]at this;exact this
end
variable{t:TA}{a:Expr}{T:Addr}{p apos:Pos}
section
variable{as:List Expr}{x:Str}{pl:Sem Bool}
theorem Qf(hg:Gl X x)(hm:X.mg x=some (.ref T))(hT:XT X.K T)(ha:PA X (a::as) t)(Y:(x==("__debug__" : Str))=false:=by decide)(ht:eval (.Call (.Attribute (.Name x p) "__init__" apos) (a::as) [] pos) X.env=(do
   let ov <-eval (.Name x p) X.env
   QdJ apos.atName
   let(f,first) <-Qcz [ov] (QdC ov "__init__" pl)
   QeK pos f first (backTo pos (h_ (a::as) X.env)) (Qdf pos (QbY [] X.env))):=by rfl)(hs:h_ (a::as) X.env=(false,eval a X.env)::h_ as X.env:=by rfl)(U:(backTo pos (h_ as X.env)).any (·.1)=false:=by rfl):PE X (.Call (.Attribute (.Name x p) "__init__" apos) (a::as) [] pos) (fun σ H Q=>t σ H fun vs H1=>∃e C bm f y,vs=[.ref e,y]/\H1 e=some (.ext (XR e C none))/\XI X.K C bm f/\Q .non H1):=by
 intro pz s σ H Q I h;refine methodCall_KW (pl:=pl) (j9 I hg hm ?_ Y) ht;refine method_cls I.kIn hT.sp (cls_value (mc:=.type "type") I.kIn hT.rd hT.fc rfl ?_);have I0:=I.tok (s.toks+1);have hA:=ha pos pz _ σ H _ I0 h;rw[hs]at hA ⊢;refine QcD (by show(false || (backTo pos (h_ as X.env)).any (·.1))=false;rw[U] <;> rfl) (Qd9 ?_);refine bR hA fun us s1 ⟨vs,H1,I1,r,e,C,bm,f,y,hv,he,xi,q⟩=>?_;subst hv;obtain⟨u,z,rfl,r1,r2⟩:=uJ r;cases(show u=Value.ref e from r1);obtain⟨⟨t,g1⟩,_,_⟩:=I1.hok e _ he;obtain⟨N,nm,ql,bs,sn,sub,ab,col,dd,k0,k1,k2,k3,k5,ob⟩:=xi.ob;refine Pi (I1.kIn _ _ ob) (xi.tl _ I1.kIn) g1 fun h' t' g2 g3=>⟨.non,H1,?_,rfl,q⟩
 have:=I1.write (x:=e) (e:=e) (o:=.ext (XR e C none)) (h':=h') (t':=s1.toks) (by rw[he];trivial) (.inl rfl) g3 ⟨_,g2⟩ (XR.ok g2);rw[show aY H1 e (.ext (XR e C none))=H1 from by funext b;unfold aY;split <;> simp_all]at this;exact this
theorem PM{o v:Expr}{f:Str}{to tv:TE}{p':Pos}(ho:PE X o to)(hv:PE X v tv)(hs:Qb5 v (some (.Attribute o f p')) pos.line X.env=pure false:=by rfl):PS X (.Assign [.Attribute o f p'] v pos) (fun D σ H=>tv σ H fun y H1=>to σ H1 fun x H2=>∃e C bm,x=.ref e/\H2 e=some (.ext (XR e C none))/\XI X.K C bm f/\∀dx,H2 dx=none->dx≠e->D.nx σ (aY (aY H2 dx (.xd [(f,y)])) e (.ext (XR e C (some dx))))):=by
 intro pz s σ H D I h;refine QcI (bR (hv pz s σ H _ I h) fun u s1 ⟨y,H1,I1,ry,q⟩=>bR (ho pz s1 σ H1 _ I1 q) fun ov s2 ⟨x,H2,I2,rx,e,C,bm,ex,he,xi,q2⟩=>?_) hs;subst ex;obtain rfl:ov=Value.ref e:=rx;obtain⟨⟨t,g1⟩,_,_⟩:=I2.hok e _ he;obtain⟨N,nm,ql,bs,sn,sub,ab,col,dd,k0,k1,k2,k3,k5,ob⟩:=xi.ob;refine Eo I2.kIn (I2.kIn _ _ ob) (xi.tl _ I2.kIn) g1 xi.g0 xi.g1 fun h' dx BT n1 n2 n3 n4=>?_;have U:H2 dx=none:=by cases z:H2 dx with
 |none=>rfl
 |some ho=>obtain⟨o,z2⟩:=uR (I2.hok dx _ z);rw[n1]at z2;cases z2
 have Y:dx≠e:=fun z=>by rw[z,g1]at n1;cases n1
 have old:∀b u,H2 b=some u->b≠e->aY (aY H2 dx (.xd [(f,y)])) e (.ext (XR e C (some dx))) b=some u:=fun b u hb hne=>by rw[bT hne,bT (fun z=>by rw[z,U]at hb;cases hb)];exact hb
 refine⟨σ,aY (aY H2 dx (.xd [(f,y)])) e (.ext (XR e C (some dx))),?_,q2 dx U Y⟩;refine I2.call' (ch:=[]) rfl ⟨fun b o hb hn _ _=>n4 b o (fun z=>by rw[z,he]at hn;cases hn) hb,fun b o hb hn _ _=>⟨o.slots,n4 b o (fun z=>by rw[z,he]at hn;cases hn) hb⟩,fun b o hb hn _=>?_,fun b o hb _=>?_,fun b xs hb=>old b _ hb (fun z=>by rw[z,he]at hb;cases hb),fun b o u hb=>old b _ hb (fun z=>by rw[z,he]at hb;cases hb),fun b ps hb=>⟨#[],by simpa using old b _ hb (fun z=>by rw[z,he]at hb;cases hb)⟩⟩ (fun b u hb=>?_) I2.bare fun b hb=>absurd hb (by simp)
 .rw[bT (fun z=>by rw[z,he]at hn;cases hn),bT (fun z=>by rw[z,n1]at hb;cases hb)];exact hn
 .by_cases z:b=e
  .exact⟨_,by rw[z];exact n2⟩
  .exact⟨o,n4 b o z hb⟩
 .by_cases z:b=e
  .subst z;rw[cV]at hb;cases hb;exact XR.ok n2
  .rw[bT z]at hb;by_cases z2:b=dx
   .subst z2;rw[cV]at hb;cases hb;refine⟨_,n3,fun g=>?_⟩;show dL (Qa2 g [(f,y)]) _;rw[Qa2];by_cases hg:g=f
    .subst hg;simp only[beq_self_eq_true,if_pos];exact ry
    .rw[show(g==f)=false from by simpa using hg,if_neg hg];exact True.intro
   .rw[bT z2]at hb;refine(I2.hok b u hb).stay (fun c v hc Z=>n4 c v (fun zz=>?_) Z) (fun c hc=>old c _ hc fun zz=>by rw[zz,he]at hc;cases hc) fun c xs hc=>old c _ hc fun zz=>by rw[zz,he]at hc;cases hc
    rcases hc with rfl|hc
    .exact z zz
    .rw[zz,he]at hc;cases hc
end
theorem VG{K:W.Frag}{h:Heap}{N:Addr}{mg:Str->Option a_}{n:Str}{v:a_}(X:K.In h)(G:h.Ns N mg)(e:nsIn K N n=some (some v)):mg n=some v:=by
 obtain⟨o,es,ep,ho,hd,_,hf⟩:=G;unfold nsIn at e;split at e
 .rename_i c d es' n' sl q;have hx:=X _ _ q;rw[ho]at hx;cases hx;cases hd;split at e
  .rename_i en he;rw[<-hf];unfold nsFind findBy;rw[<-Qer,he]
   first|exact J_ e|(cases e;rfl)
  .split at e <;> cases e
 .cases e
def Ab(C:Addr)(f:Str):Sp:=fun vs H Q _=>∃e i,vs=[.ref e,.int i]/\i.natAbs.log2<64/\H e=some (.ext (XR e C none))/\∀dx,H dx=none->dx≠e->Q .non (aY (aY H dx (.xd [(f,.int i)])) e (.ext (XR e C (some dx))))
def cI(σ:L2.St):Prop:=∃i:Int,σ[1]? = some (some (.int i))/\i.natAbs.log2<64
def Eh(K:W.Frag)(f:Str):TS:=sH (Fk (fun σ H Q=>Ax (lU 0) (Ax (fun σ H Q=>cI σ/\∀x:Str,x.length<=sizeLine->Q (.str x) H) on) σ H fun vs H1=>∃e C bm f y,vs=[.ref e,y]/\H1 e=some (.ext (XR e C none))/\XI K C bm f/\Q .non H1))
 (fun D σ H=>lU 1 σ H fun y H1=>lU 0 σ H1 fun x H2=>∃e C bm,x=.ref e/\H2 e=some (.ext (XR e C none))/\XI K C bm f/\∀dx,H2 dx=none->dx≠e->D.nx σ (aY (aY H2 dx (.xd [(f,y)])) e (.ext (XR e C (some dx)))))
theorem O6{P:H_}{w:Z_}{K:W.Frag}{mg:Str->Option a_}{base:Heap}{qual y f:Str}{st:Stmt}{fI C:Addr}{fd:QaE}{bm:List a_}{k:Nat}(F:Fun K "__init__" qual st fI fd)(S:FnScope ["self",y] ["self",y] (aF st))(xi:XI K C bm f)(hb:∀(cdv:a_)(A:Qag)(outer:List Env)(s:c_)(H:Hp)(E:XK),eD (cw dm P w K mg base ["self",y] qual (aF st) fI cdv A outer s H E).nox (aN st) (Eh K f)):FnOk P w K mg base dm (k+1) fI fd ["self",y] (Ab C f):=by
 refine F.ok S (fun vs H Q E ⟨e,i,h,_⟩=>by rw[h];rfl) fun cdv A outer s H vs Q E hr ⟨e,i,hv,hi,he,q⟩=>⟨_,hb cdv A outer s H E,?_⟩
 subst hv;exact⟨_,rfl,⟨i,rfl,hi⟩,fun x _=>⟨e,C,bm,f,_,rfl,he,xi,_,rfl,_,rfl,e,C,bm,rfl,he,xi,fun dx h1 h2=>q dx h1 h2⟩⟩
structure XCI(P:H_)(w:Z_)(K:W.Frag)(mg:Str->Option a_)(base:Heap)(x:Str)(C:Addr)(f:Str):Prop where
 bound:mg x=some (.ref C)
 keep:keepIn K (.ref C)=true
 ex:∃bm fI fd y oI N nm ql bs sn sub ab col dd k0 k1 k2 k3 k5,XI K C bm f/\K.lookup C=some (QaZ nm ql C N bs bm true sn sub ab col dd k0 k1 k2 k3 k5 "ValueError.__new__")/\nsOkIn K N=true/\nsIn K N "__init__" = some (some (.ref fI))/\K.lookup fI=some oI/\oI.cls=.type "function" /\g5 K fd ["self",y] []/\FnOk P w K mg base dm 1 fI fd ["self",y] (Ab C f)
variable{pz:List (Addr×Obj)}{σ:L2.St}{H:Hp}{s:c_}
theorem Inv.exc{h':Heap}{e C:Addr}{vs:List a_}(I:Inv X pz σ H s)(m:s.heap.MadeExcOf h' e (.ref C) vs):H e=none/\Inv X pz σ (aY H e (.ext (XR e C none))) { heap:=h',gens:=s.gens,drawn:=s.drawn,toks:=s.toks,os:=s.os }:=by
 obtain⟨t,m1,m2,m3⟩:=m.there;have hn:H e=none:=by cases z:H e with
 |none=>rfl
 |some u=>obtain⟨o,z2⟩:=uR (I.hok e u z);rw[m.new]at z2;cases z2
 have old:∀b u,H b=some u->aY H e (.ext (XR e C none)) b=some u:=fun b u hb=>by rw[bT (fun z=>by rw[z,hn]at hb;cases hb)];exact hb
 refine⟨hn,I.call' (ch:=[]) rfl ⟨fun b o hb _ _ _=>m.keeps b o hb,fun b o hb _ _ _=>⟨o.slots,m.keeps b o hb⟩,fun b o hb hz _=>?_,fun b o hb _=>⟨o,m.keeps b o hb⟩,fun b xs hb=>old b _ hb,fun b o u hb=>old b _ hb,fun b ps hb=>⟨#[],by simpa using old b _ hb⟩⟩ (fun b u hb=>?_) I.bare fun b hb=>absurd hb (by simp)⟩
 .rw[bT (fun z=>by rw[z,m.new]at hb;cases hb)];exact hz
 .by_cases z:b=e
  .subst z;rw[cV]at hb;cases hb;exact XR.ok m1
  .rw[bT z]at hb;exact(I.hok b u hb).stay (fun c v _ hc=>m.keeps c v hc) (fun c hc=>old c _ hc) fun c xs hc=>old c _ hc
theorem Fly.init{s':c_}{h':Heap}{e C dx:Addr}{vs:List a_}{f:Str}{y:V}(I:Inv X pz σ H s)(m:s.heap.MadeExcOf h' e (.ref C) vs)(os:s'.os=s.os)(bare:Qcy s'.gens)(un:Un (dh X.stack) [] (aY H e (.ext (XR e C none))) (aY (aY (aY H e (.ext (XR e C none))) dx (.xd [(f,y)])) e (.ext (XR e C (some dx)))) h' s'.heap)(hok:HOk X.prog X.w (aY (aY (aY H e (.ext (XR e C none))) dx (.xd [(f,y)])) e (.ext (XR e C (some dx)))) s'.heap)(BT:aY H e (.ext (XR e C none)) dx=none)(Cl:dx≠e):H dx=none/\Fly X.prog X.w X.stack H s (aY H dx (.xd [(f,y)])) e (.ref C) (some dx) s':=by
 obtain⟨hn,I2⟩:=Inv.exc I m;have hd:H dx=none:=by rw[bT Cl]at BT;exact BT
 have ne:∀b o,s.heap.get? b=some o->b≠e:=fun b o hb z=>by rw[z,m.new]at hb;cases hb
 have up:∀b,b≠e->aY (aY (aY H e (.ext (XR e C none))) dx (.xd [(f,y)])) e (.ext (XR e C (some dx))) b=aY H dx (.xd [(f,y)]) b:=fun b hb=>by
  rw[bT hb];by_cases z:b=dx
  .subst z;rw[cV,cV]
  .rw[bT z,bT z,bT hb]
 have U:∀b,b≠e->aY H e (.ext (XR e C none)) b=H b:=fun b hb=>bT hb;have IO:aY H dx (.xd [(f,y)]) e=none:=by rw[bT Cl.symm];exact hn
 have Id:∀b u,aY H dx (.xd [(f,y)]) b=some u->b≠e:=fun b u hb z=>by rw[z,IO]at hb;cases hb
 obtain⟨⟨t,g1⟩,_,_⟩:=hok e _ cV;have Y:Un (dh X.stack) [] H (aY H dx (.xd [(f,y)])) s.heap s'.heap:=by
  refine⟨fun b o hb hz hf hx=>un.keep b o (m.keeps b o hb) (by rw[U b (ne b o hb)];exact hz) hf hx,fun b o hb hz hf hx=>un.slot b o (m.keeps b o hb) (by rw[U b (ne b o hb)];exact hz) hf hx,fun b o hb hz hx=>?_,fun b o hb hx=>un.there b o (m.keeps b o hb) hx,fun b xs hb=>?_,fun b o u hb=>?_,fun b ps hb=>?_⟩
  .rw[<-up b (ne b o hb)];exact un.free b o (m.keeps b o hb) (by rw[U b (ne b o hb)];exact hz) hx
  .have hbe:b≠e:=fun z=>by rw[z,hn]at hb;cases hb
   rw[<-up b hbe];exact un.tups b xs (by rw[U b hbe];exact hb)
  .have hbe:b≠e:=fun z=>by rw[z,hn]at hb;cases hb
   rw[<-up b hbe];exact un.frzs b o u (by rw[U b hbe];exact hb)
  .have hbe:b≠e:=fun z=>by rw[z,hn]at hb;cases hb
   rw[<-up b hbe];exact un.tbls b ps (by rw[U b hbe];exact hb)
 have Z:HOk X.prog X.w (aY H dx (.xd [(f,y)])) s'.heap:=fun b u hb=>by
  refine(hok b u (by rw[up b (Id b u hb)];exact hb)).stay (fun c v _ hc=>hc) (fun c hc=>?_) fun c xs hc=>?_
  .have:c≠e:=fun z=>by rw[z,cV]at hc;cases hc
   rw[<-up c this];exact hc
  .have:c≠e:=fun z=>by rw[z,cV]at hc;cases hc
   rw[<-up c this];exact hc
 refine⟨hd,os,bare,Y,Z,QeT s'.heap (e::dh X.stack),fun b o hb=>QfE _ hb,QeU _ j_,?_,⟨_,_,g1,rfl,fun d hd=>by cases hd;rfl,rfl,.inl rfl⟩,fun b o hb hf=>?_,fun b u hb=>?_⟩
 .have key:∀l:List Env,(∀b∈dh l,b∈dh X.stack)->s.heap.FunFrames X.base l->s'.heap.FunFrames (QeT s'.heap (e::dh X.stack)) l:=by
   intro l
   induction l with
  |nil=>intro _ _;unfold QcG;trivial
  |cons env l ih=>intro hs hf;unfold QcG at hf ⊢;obtain⟨f1,⟨L,o,f2,f3,f4,f5⟩,f6⟩:=hf;have hL:L∈dh X.stack:=hs L (by unfold dh;rw[Qaw,f2];exact j_);obtain⟨sl,KK⟩:=Y.slot L o f4 (I.stkFree L hL) hL (by simp);refine⟨f1,⟨L,_,f2,QeU _ (k_ _ hL),KK,f5⟩,ih (fun b hb=>hs b ?_) f6⟩;unfold dh;rw[Qaw,f2];exact k_ _ hb
  exact key X.stack (fun _ hb=>hb) I.stack
 .obtain⟨o',ho'⟩:=Y.there b o hb (by simp);exact⟨o',Qea _ ho' fun z=>by
   rcases t_.mp z with z|z
   .exact ne b o hb z
   .exact hf z⟩
 .obtain⟨o,eo⟩:=uR (Z b u hb);refine⟨o,Qea _ eo fun z=>?_⟩;rcases t_.mp z with z|z
  .exact Id b u hb z
  .have h1:=I.stkFree b z;by_cases zz:b=dx
   .obtain⟨_,ob,hob,_⟩:=I.stack.mem z;have:=Y.free b ob hob h1 (by simp);rw[this]at hb;cases hb
   .rw[bT zz,h1]at hb;cases hb
variable{f:Str}{np:Pos}
section
variable{x:Str}{cpos:Pos}
theorem SK{Q:Flow->c_->Prop}(I:Inv X pz σ H s)(hc:X.calm=true)(c:XCI X.prog X.w X.K X.mg X.base x C f)(hr:Room 2 X.A)(hg:Gl X x)(ha:PA X [a] t)(h:t σ H fun vs H1=>∃i,vs=[.int i]/\i.natAbs.log2<64/\∀s1 e dx s',Inv X pz σ H1 s1->H1 dx=none->Fly X.prog X.w X.stack H1 s1 (aY H1 dx (.xd [(f,.int i)])) e (.ref C) (some dx) s'->X.xe (.ref e) s')(Z:(x==("__debug__" : Str))=false:=by decide)(he:h_ [a] X.env=(false,eval a X.env)::h_ [] X.env:=by rfl)(hpl:(backTo cpos (h_ [] X.env)).any (·.1)=false:=by rfl):x_ (E_ X.prog X.w) X.A (exec (.Raise (some (.Call (.Name x np) [a] [] cpos)) none pos) X.env) Q X.xe s:=by
 obtain⟨bm,fI,fd,y,oI,N,nm,ql,bs,sn,sub,ab,col,dd,k0,k1,k2,k3,k5,xi,ob,U,Cl,BT,Y,Id,F⟩:=c.ex;rw[arm_exec_Raise];refine b_ (Qce (Sf (C:=C) (nm:=nm) (ql:=ql) (N:=N) (bs:=bs) (bm:=bm) (hdct:=true) (sn:=sn) (sub:=sub) (ab:=ab) (col:=col) (dd:=dd) (k0:=k0) (k1:=k1) (k2:=k2) (k3:=k3) (k5:=k5) (nw := "ValueError.__new__") (BM (xi.tl _ I.kIn) (by decide+kernel)) (I.ok.hd hc)
  (b_ (Qan (QaL (j9 I hg c.bound ?_ Z)) (fun v s3 h3=>b_ (Qce (n_ h3))) fun _ _ z=>z))))
 refine callWith_K (h₀:=X.base) I.ok.mod.kin c.keep (bR (ha cpos pz s σ H _ I h) fun us s1 ⟨vs,H1,I1,r,i,hv,hi,q⟩=>⟨I1.kIn,?_⟩) he hpl;subst hv;obtain⟨u,rfl,ru⟩:=r.one;obtain⟨hp,gs,dr,tk,os⟩:=s1;refine Ry (us:=[u]) Qdm (xi.tl _ I1.kIn) (I1.kIn _ _ ob) (QdZ (QfD I1.kIn U)) ?_ (I1.kIn _ _ BT) Y (by rw[Qaa];show 1<=16777216;decide) fun h' e m=>?_
 .exact VG I1.kIn (QdZ (QfD I1.kIn U)) Cl
 obtain⟨hn,I2⟩:=Inv.exc I1 m;have e0:=I2.env0.make C [u] [];refine Qco (QcB (F.run _ X.stack _ _ ⟨[.ref e,u],[]⟩ [.ref e,u] [.ref e,.int i] (fun v H'=>v=.non/\∃dx,aY H1 e (.ext (XR e C none)) dx=none/\dx≠e/\H'=aY (aY (aY H1 e (.ext (XR e C none))) dx (.xd [(f,.int i)])) e (.ext (XR e C (some dx)))) (fun _ _ _=>False) (hr.make C [u] []) e0 (Id _ [.ref e,u] I2.kIn rfl) (.cons rfl (.cons ru .nil)) ⟨e,i,rfl,hi,cV,fun dx h1 h2=>⟨rfl,dx,h1,h2,rfl⟩⟩) fun r s' hq=>?_);cases r with
|error e=>exact Qai hq
|ok fl=>cases fl with
 |ret z=>obtain⟨v,H',o1,o2,o3,o4,o5,rfl,dx,d1,d2,rfl⟩:=hq;obtain⟨hd,fl⟩:=Fly.init I1 m o1 o2 o3 o4 d1 d2;obtain⟨⟨t,g1⟩,_,_⟩:=o4 e _ cV;exact⟨o5,e,t,some dx,rfl,(I1.call' (ch:=[]) fl.os fl.un fl.hok fl.bare (fun b z=>absurd z (by simp))).kIn _ _ ob,g1,q _ e dx s' I1 hd fl⟩
 |next=>exact Qai hq
 |brk=>exact Qai hq
 |cont=>exact Qai hq
end
def uO(m:List Md)(nm f:Str)(fl:aQ->Res (List D)):FS:=fun r=>iU m r (fl r) fun ds=>match ds with
|[.int i]=>if i.natAbs.log2<64 then .exc (xD nm [(f,.int i)]) (forget m r)else .stuck
|_=>.stuck
variable{g:GE}{ro:Bool}{m mb:List Md}{fl:aQ->Res (List D)}
section
variable{fe:FE}{x:Str}
theorem RT(hc:X.calm=true)(c:XCI X.prog X.w X.K X.mg X.base x C f)(xn:XN X.K nm C)(hr:Room 2 X.A)(hg:Gl X x)(ha:SA X g m [a] fl)(U:(x==("__debug__" : Str))=false:=by decide)(he:h_ [a] X.env=(false,eval a X.env)::h_ [] X.env:=by rfl)(hpl:(backTo p (h_ [] X.env)).any (·.1)=false:=by rfl):SS X g ro mb m (.Raise (some (.Call (.Name x np) [a] [] p)) none pos) (uO m nm f fl) m:=by
 refine⟨rfl,fun pz s σ H D I ⟨r,G,si,q⟩=>?_⟩;refine SK I hc c hr hg ha ⟨r,G,si,?_⟩ U he hpl;refine cJ (gP si rfl q) fun ds q vs G' H' w' rs=>?_;split at q
 .rename_i i;split at q
  .rename_i hi;cases rs with
  |cons r1 rest=>cases rest;have hv:=r1.int w'.ok;subst hv;refine⟨i,rfl,hi,fun s1 e dx s' I1 hd fl=>?_⟩;have gw:Grow X.K G' H' (gset G' dx (.obj 1 [(f,.int i)])) (aY H' dx (.xd [(f,.int i)])):=Grow.newF w'.ok hd (OB.fld cV (.cons ⟨rfl,.scl (.int i)⟩ .nil));exact q pz (.ref e) s' σ _ _ (w'.trans gw).ge (by have:=(si.grow (w'.trans gw)).forget;exact this) (fl.inv I1) ⟨pz,s1,H',e,C,some dx,nm,[(f,.int i)],rfl,rfl,xn,gr,I1,fl⟩
  .exact q.elim
 .exact q.elim
end
def EA(K:W.Frag)(C:Addr):Option Addr:=match K.lookup C with
|some ⟨_,_,.cls cd,_⟩=>some cd.ns
|_=>none
def jk(K:W.Frag)(C N:Addr):Bool:=match K.lookup C with
|some ⟨.type "type",_,.cls cd,sl⟩=>(match cd.mro,sl.toList with
 |.ref C'::bm,[_,_,_,_,some (.builtin n),_]=>C'==C&&n == "ValueError.__new__" && ! cd.hasDel&&cd.hasDict&&tailIn K fO bm&&nsOkIn K cd.ns&&cd.ns==N
 |_,_=>false)
|_=>false
theorem Mf{K:W.Frag}{C N:Addr}(h:jk K C N=true):∃bm,(∃nm q bs sn sub ab col dd k0 k1 k2 k3 k5,K.lookup C=some (QaZ nm q C N bs bm true sn sub ab col dd k0 k1 k2 k3 k5 "ValueError.__new__"))/\tailIn K fO bm=true/\nsOkIn K N=true:=by
 unfold jk at h;split at h
 .rename_i dict cd sl hk;split at h
  .rename_i C' bm k0 k1 k2 k3 n k5 hm hs;simp only[M_,beq_iff_eq,QbT]at h;obtain⟨⟨⟨⟨⟨⟨rfl,rfl⟩,hd⟩,hx⟩,ht⟩,hn⟩,rfl⟩:=h;obtain⟨Y,bs,mro,ns,q,hdct,sn,sub,ab,col,U⟩:=cd;have e1:mro=Value.ref C'::bm:=hm;have e2:U=false:=hd;have e4:hdct=true:=hx;subst e1 e2 e4;have e3:sl = #[k0,k1,k2,k3,some (Value.builtin "ValueError.__new__"),k5]:=by cases sl with
   |mk l=>exact congrArg Array.mk hs
   subst e3;exact⟨bm,⟨_,_,_,_,_,_,_,_,_,_,_,_,_,hk⟩,ht,hn⟩
  .cases h
 .cases h
theorem Fo{K:W.Frag}{C N:Addr}{bm:List a_}{nm:Str}(h:jk K C N=true)(o:fN K C=some (bm,nm)):(∃nm q bs sn sub ab col dd k0 k1 k2 k3 k5,K.lookup C=some (QaZ nm q C N bs bm true sn sub ab col dd k0 k1 k2 k3 k5 "ValueError.__new__"))/\tailIn K fO bm=true/\nsOkIn K N=true:=by
 obtain⟨bm',⟨Id,q,bs,sn,sub,ab,col,dd,k0,k1,k2,k3,k5,h1⟩,h2,h3⟩:=Mf h;obtain⟨⟨N1,Cl,q1,IO,LT,BT,Y,LE,U,Z,a0,a1,a2,a3,a5,KK,z1⟩,_⟩:=AE o;rw[h1]at z1;have:bm'=bm:=by have e1:=congrArg Obj.data (J_ z1);have e2:=Data.cls.inj e1;have e3:=congrArg ClassData.mro e2;exact(List.cons.inj e3).2
 subst this;exact⟨⟨_,_,_,_,_,_,_,_,_,_,_,_,_,h1⟩,h2,h3⟩
theorem LB{K:W.Frag}{C N:Addr}{bm:List a_}{nm f:Str}(h:jk K C N=true)(o:fN K C=some (bm,nm))(g0:Qdl K (.ref C) "__setattr__" = some (some (.builtin "object.__setattr__")))(g1:Qdl K (.ref C) f=some none):XI K C bm f:=by obtain⟨⟨U,q,bs,sn,sub,ab,col,dd,k0,k1,k2,k3,k5,h1⟩,h2,h3⟩:=Fo h o;exact⟨⟨N,U,q,bs,sn,sub,ab,col,dd,k0,k1,k2,k3,k5,h1⟩,fun h kin=>tail_of_in kin h2,g0,g1⟩
theorem Wx{P:H_}{w:Z_}{K:W.Frag}{h:Heap}{mg:Str->Option a_}{x y f qual nm:Str}{C N fI:Addr}{bm:List a_}{st:Stmt}{fd:QaE}(KX:K.In h)(G:h.Ns N_ mg)(a:nsIn K N_ x=some (some (.ref C)))(kp:keepIn K (.ref C)=true)(z:jk K C N=true)(o:fN K C=some (bm,nm))(xi:XI K C bm f)(i:nsIn K N "__init__" = some (some (.ref fI)))(F:Fun K "__init__" qual st fI fd)(fc:typeIn K (.ref fI)=some (.type "function"))(hb:∀(kV doc pm:a_)(an:Option Addr)(cdv ct:a_)(us:List a_),us.length=([("self" : Str),y]).length->QbN (W.fnOf "__init__" qual (aU st) (aN st) (aF st) .none kV doc pm an cdv ct) ⟨us,[]⟩=pure (([("self" : Str),y]).zip us))(ok:∀base,FnOk P w K mg base dm 1 fI fd ["self",y] (Ab C f))(base:Heap):XCI P w K mg base x C f:=by obtain⟨⟨U,q,bs,sn,sub,ab,col,dd,k0,k1,k2,k3,k5,h1⟩,h2,h3⟩:=Fo z o;obtain⟨oI,lI,hI⟩:=QdQ.mp (show(K.lookup fI).map (·.cls)=some (.type "function")from fc);exact⟨mg_of KX G a,kp,bm,fI,fd,y,oI,N,U,q,bs,sn,sub,ab,col,dd,k0,k1,k2,k3,k5,xi,h1,h3,i,lI,hI,F.binds hb,ok base⟩
def L8(s:Stmt):Stmt:=match s with
|.ClassDef _ _ _ (d::_) _ _ _ _ _ _ _=>d
|_=>s
variable{P:H_}{mg:Str->Option a_}{base:Heap}
theorem vX{x:Str}{st:Stmt}{N ps:List Str}{k:Nat}{ro:Bool}{ms:List Md}{fs:FS}{m':List Md}{dds:List a_}(A:DefAtD K mg x st dds)(S:FnScope N ps (aF st))(hms:ms.length=ps.length)(hb:∀(T:Addr)(kV doc pm:a_)(an:Option Addr)(cdv ct:a_)(us:List a_),us.length=ps.length->∃kk:Option (Array a_)->Sem (List (Str×a_)),QbN (W.fnOf x x (aU st) (aN st) (aF st) (.ref T) kV doc pm an cdv ct) ⟨us,[]⟩=Qei (.ref T) >>= kk/\kk (some dds.toArray)=pure (ps.zip (us++[])))(U:∀(f:Addr)(cdv:a_)(A:Qag)(outer:List Env)(s:c_)(H:Hp)(g:GE)(E:XK),Room k (A.deeper (QbJ x (aF st) s.heap.objs.size f cdv)) ->fF (cw (mq P w) P w K mg base N x (aF st) f cdv A outer s H E) g ro [] (hX N.length ms) (aN st) fs m'):CalleeX P w K mg base x ps [] (k+1) ro ms fun ds=>aT ro (fs (bL N.length ds)):=by
 obtain⟨f,T,o,n,oc,od,kV,doc,pm,an,cdv,ct,osl,h1,hT,hd,lk,BT,kp⟩:=A.ex;refine⟨f,W.fnOf x x (aU st) (aN st) (aF st) (.ref T) kV doc pm an cdv ct,h1,kp,fun s us KX hl=>?_,?_⟩
 .obtain⟨kk,e1,e2⟩:=hb T kV doc pm an cdv ct us (by simpa using hl);exact Qc3 rfl (KX _ _ hT) hd e1 e2
 .refine qw lk BT S (fun vs H Q E ⟨G,ds,gk,rs,q⟩=>rs.len.1.trans hms) fun A outer s H vs Q E hr h=>?_;obtain⟨G,ds,gk,rs,q⟩:=h;have hpl:ps.length<=N.length:=by have:=congrArg Qb0 S.pre;rw[QaO]at this;omega
  refine⟨_,(U f cdv A outer s H ⟨G,H,fun _=>none⟩ E hr).2,bL N.length ds,G,rC gk rs (by omega),?_⟩;replace q:fin (aT ro (fs (bL N.length ds))) _ _:=q;cases e:fs (bL N.length ds)with
 |nx r'=>rw[e]at q;cases ro with
  |false=>exact fun σ' G' H' _ si=>q .non G' H' si.grown (.scl .non)
  |true=>exact q.elim
 |rt d=>rw[e]at q;exact fun v G' H' wg rv=>q v G' H' wg rv
 |bk r'=>rw[e]at q;exact q.elim
 |ct r'=>rw[e]at q;exact q.elim
 |exc x r'=>rw[e]at q;intro pz ev s' σ' G' H' le si I ex;obtain⟨Cl,s1,H1,a,C,Y,nm,Z,rfl,rfl,xn,xf,I1,fl⟩:=ex;exact fl.leaves I1 rfl rfl rfl fun s'' fl2=>⟨a,_,H',Y,rfl,fl2,q C Y nm Z G' H' rfl xn xf si.grown⟩
 |stuck=>rw[e]at q;exact q
section
variable{tg:Expr}
theorem PL{iter:Expr}{body:List Stmt}{wi:TI}{g:TG}{tb:TS}{pos:Pos}(hc:X.calm=true)(hi:PI X tg iter wi)(hg:PG X.nox tg g)(hb:eD X.nox body tb)(hs:∀x,QaH iter X.env x=pure x:=by intro _;rfl):PS X (.For tg iter body [] pos) (sJ wi g tb):=by
 intro pz s σ H D I h;refine wpAny_For (bR (hi pz s σ H _ I h) fun v s1 h1=>bR h1 fun itv s2 h2=>?_) hs;obtain⟨it,fp,tn,J,H2,e,I2,T,Cl,f2,W,⟨m0,w0⟩,turn⟩:=h2;subst e;have Y:∀{H':Hp},(∀b∈fp,H' b=none)->∀b∈fp,eY X pz H' b:=fun hn b hb=>⟨hn b hb,(f2 b hb).2⟩
 refine Qej (fun n s'=>∃i σ' H',L2.Inv X pz σ' H' s'/\tn i s'.heap/\(∀b∈fp,H' b=none)/\W i n σ' H') ?_ m0 ⟨0,σ,H2,I2,Cl,fun b hb=>(f2 b hb).1,w0⟩
 rintro n s3 ⟨i,σ3,H3,I3,st3,fr3,w3⟩
 rcases turn i n σ3 H3 w3 with⟨stop,qn⟩|⟨go,N,hN,step⟩
 .refine Qan (T.done X rfl rfl rfl hc i pz s3 σ3 H3 (fun _ _=>False) I3 (Y fr3) st3 stop) (fun r s4 ⟨hr,I4⟩=>?_) fun _ _ z=>Qai z;subst hr;exact QbM ⟨σ3,H3,I4,qn⟩
 .refine Qan (T.item X rfl rfl rfl hc i pz s3 σ3 H3 (fun _ _=>False) I3 (Y fr3) st3 go) (fun r s4 ⟨u,hr,h4⟩=>?_) fun _ _ z=>Qai z;subst hr;refine Qan h4 (fun _ s5 ⟨x,H5,I5,r5,y5,st5,fr5⟩=>?_) fun _ _ z=>Qai z;have BT:=I5.pinned (Y fr5) (T.obj _ _ st5);refine Qan (hg _ s5 σ3 H5 x u _ (BT.wish _) r5 (step x H5 y5)) (fun _ s6 ⟨σ6,H6,I6,q6⟩=>?_) fun _ _ z=>Qai z;refine Qan (hb _ s6 σ6 H6 _ I6 q6) (fun f s7 q7=>?_) fun _ _ z=>Qai z;have Z:∀{U:L2.St}{H7:Hp},L2.Inv X (pz++pA fp s5.heap) U H7 s7->N U H7->∃m,m<n/\∃i σ' H',L2.Inv X pz σ' H' s7/\tn i s7.heap/\(∀b∈fp,H' b=none)/\W i m σ' H':=fun{U H7} I7 n7=>by obtain⟨m',hm,w7⟩:=hN U H7 n7;refine⟨m',hm,i+1,U,H7,I7.unpinned,T.keep _ _ _ st5 fun b hb o e=>(I7.pin (b,o) (Q_ _ (Q_ _ (pX hb e)))).1,fun b hb=>?_,w7⟩;obtain⟨o,e,d⟩:=T.obj _ _ st5 b hb;exact(I7.pin (b,o) (Q_ _ (Q_ _ (pX hb e)))).2.1
  cases f with
 |next=>obtain⟨U,H7,I7,n7⟩:=q7;exact Z I7.unwish n7
 |cont=>obtain⟨U,H7,I7,n7⟩:=q7;exact Z I7.unwish n7
 |brk=>obtain⟨U,H7,I7,q7⟩:=q7;exact⟨U,H7,I7.unwish.unpinned,q7⟩
 |ret v=>obtain⟨x7,U,H7,I7,r7,q7⟩:=q7;exact⟨x7,U,H7,I7.unwish.unpinned,r7,q7⟩
end
def l8(s:FS):FS:=fun r=>match s r with
|.exc _ _=>.stuck
|o=>o
def qP(m:List Md)(fi:FI)(ft:FT)(body:FS):FS:=fun r=>iU m r (fi r) fun ds=>bM ft (l8 body) ds r
section
variable{tg iter:Expr}{sts:List Stmt}{s1:FS}
theorem FZ(hc:X.calm=true){ft:FT}{fi:FI}(hi:kD X g m tg iter fi)(hg:SG X.nox g m tg ft m)(hb:fF X.nox g ro m m sts s1 m)(hs:∀x,QaH iter X.env x=pure x:=by intro _;rfl):SS X g ro mb m (.For tg iter sts [] pos) (qP m fi ft s1) m:=by
 refine⟨rfl,PS.imp (PL hc hi hg.2 hb.2 hs) fun D σ H ⟨r,G,si,q⟩=>⟨r,G,si,cJ (gP si rfl q) fun ds q J G0 H0 w0 Y=>?_⟩⟩;refine⟨fun i n σ H=>∃r G,SI X g m r G σ H/\cF G0 G/\i<=ds.length/\n=ds.length-i/\c9 X g ro m mb G D (bM ft (l8 s1) (ds.drop i) r),⟨ds.length,r,G0,si.grow w0,cF.refl G0,Qaf _,rfl,c9.gle q w0.ge⟩,?_⟩
 rintro i n σ1 H1 ⟨r1,G1,si1,le1,hi,rfl,q1⟩
 by_cases hlt:i<ds.length
 .have hd:ds.drop i=ds[i]::ds.drop (i+1):=QaF hlt;rw[hd]at q1;unfold bM at q1;refine .inr ⟨Y.go G1 H1 i le1 si1.gok hlt,fun σ' H'=>∃r G,SI X g m r G σ' H'/\cF G0 G/\c9 X g ro m mb G D (bM ft (l8 s1) (ds.drop (i+1)) r),fun σ' H' ⟨r',G',si',le',q'⟩=>⟨ds.length-(i+1),by omega,r',G',si',le',hlt,rfl,q'⟩,fun x H' y=>?_⟩;obtain⟨G',w',rv⟩:=Y.yld G1 H1 i x H' ds[i] le1 si1.gok y (f_ hlt);have le':cF G0 G':=le1.trans w'.ge;cases Cl:ft ds[i] r1 with
 |none=>simp only[Cl]at q1;exact q1.elim
 |some r2=>
   simp only[Cl]at q1;have U:SI X g m r1 G' σ1 H':=si1.grow w';refine⟨r1,G',ds[i],⟨U.gok,U.old,U.ge,U.gf,U.lm,U.lr,U.sh,U.ow,U.bw,U.dis,U.lk⟩,rv,r2,Cl,fun σ2 Id=>⟨r2,G',Id,?_⟩⟩;have back:∀{m:List Md}{r:aQ}{G:GH}{σ:L2.St}{H:Hp},SI X.nox g m r G σ H->SI X g m r G σ H:=fun z=>⟨z.gok,z.old,z.ge,z.gf,z.lm,z.lr,z.sh,z.ow,z.bw,z.dis,z.lk⟩
   have en:l8 s1 r2=match s1 r2 with
   |.exc _ _=>.stuck
   |o=>o:=rfl
   cases eb:s1 r2 with
  |nx r'=>simp only[en,eb]at q1;exact fun σ3 G3 H3 Z BT=>⟨r',G3,back BT,le'.trans Z,c9.gle q1 (cF.trans w'.ge Z)⟩
  |ct r'=>simp only[en,eb]at q1;exact fun σ3 G3 H3 Z BT=>⟨r',G3,back BT,le'.trans Z,c9.gle q1 (cF.trans w'.ge Z)⟩
  |bk r'=>simp only[en,eb]at q1;exact fun σ3 G3 H3 Z BT=>q1 σ3 G3 H3 (cF.trans w'.ge Z) (back BT)
  |rt d=>simp only[en,eb]at q1;exact q1
  |exc x r'=>simp only[en,eb]at q1;exact q1.elim
  |stuck=>simp only[en,eb]at q1;exact q1.elim
 .have e:i=ds.length:=by omega
  subst e;rw[QbD]at q1;exact .inl ⟨Y.stop G1 H1 le1 si1.gok,q1 σ1 G1 H1 (cF.refl _) si1⟩
end
def gK(K:W.Frag)(T:Addr)(hit:Str->Bool):Prop:=∀nm C,hit nm=true->XN K nm C->∃bm,XO K C bm/\(Value.ref C::bm).contains (.ref T)=false
theorem Ea{K:W.Frag}{T:Addr}{hit:Str->Bool}(l:List (Str×Addr×List a_))(h:∀q∈l,CF K q.1 q.2.1 q.2.2/\(Value.ref q.2.1::q.2.2).contains (.ref T)=false)(hh:∀nm,hit nm=true->∃q∈l,q.1=nm):gK K T hit:=by intro nm C hn xn;obtain⟨q,hq,rfl⟩:=hh nm hn;obtain⟨f,hc⟩:=h q hq;have:=f.eq xn;subst this;exact⟨_,f.xa.ob,hc⟩
section
variable{H':Hp}{s':c_}{a:Addr}{od:Option Addr}
theorem R9{xT:Str}{bm bmT:List a_}{np BT:Pos}{Id:Stmt}{U:List Stmt}{t:TS}{D:Ends}{rest:List QbQ}{h':Heap}{oe ot:Obj}{vs ts:Array a_}{tb:Addr}(I:Inv X pz σ H s)(I1:Inv X pz σ (aY H' a (.ext (lh a C od))) { heap:=h',gens:=s'.gens,drawn:=s'.drawn,toks:=s'.toks,os:=s'.os })(e1:h'.get? a=some oe)(e2:oe.cls=.ref C)(e3:oe.data=.fields vs)(e4:vs[1]? = some (.ref tb))(e5:h'.get? tb=some ot)(e6:ot.data=.fields ts)(e7:ts[3]? = some Value.none)(cT:X.mg xT=some (.ref T))(oT:XO X.K T bmT)(Cl:bmT.contains (Value.type "BaseException")=true)(oC:XO X.K C bm)(hit:(Value.ref C::bm).contains (.ref T)=true)(hg:Gl X xT)(hs:eD (X.held (.ref a)) (Id::U) t)(q:t { nx:=D.nx,rt:=D.rt } σ (aY H' a (.ext (lh a C od))))(IO:(xT==("__debug__" : Str))=false:=by decide):x_ (E_ X.prog X.w) X.A (QeX (.ref a) X.env (.ExceptHandler (some (.Name xT np)) none (Id::U) BT::rest)) (SP X pz D) X.xe { heap:=h',gens:=s'.gens,drawn:=s'.drawn,toks:=s'.toks,os:=s'.os }:=by
 refine Qel ?_ (by intro z;cases z);have Ih:=Inv.held I1 (.ref a);refine Qd6 (j9 (X:=X.held (.ref a)) Ih hg cT ?_ IO);obtain⟨N1,W6,q1,W1,WZ,W4,ST,WW,LT,W3,a0,a1,a2,a3,a5,W2,z1⟩:=oC;obtain⟨N2,W5,q2,W0,hd2,WY,LE,Ty,KK,WX,c0,c1,c2,c3,c5,Tm,z2⟩:=oT;refine K5 (I1.kIn _ _ z1) (I1.kIn _ _ z2) e1 e2 Cl ?_;rw[hit,if_pos rfl];refine codeAny_handlers_suite ?_;unfold Qb7;refine b_ (QaI e1 e3 e4 ?_);rw[if_pos (by rfl)];have Z:3<ts.size:=(Qaz.mp e7).1;refine QbC e5 e6 Z ?_;have I2:Inv X pz σ (aY H' a (.ext (lh a C od))) { heap:=h'.update tb (Qah fun v=>v.setIfInBounds 3 Value.none),gens:=s'.gens,drawn:=s'.drawn,toks:=s'.toks,os:=s'.os }:=by
  refine I1.kept fun b u e=>?_;show(h'.update tb _).get? b=some u;by_cases hb:b=tb
  .subst hb;have Y:h'.get? b=some ot:=e5;have:u=ot:=by rw[show h'.get? b=some u from e]at Y;cases Y;rfl
   subst this;have mf:Qah (fun v=>v.setIfInBounds 3 Value.none) u=u:=by
    obtain⟨c,d,da,sl⟩:=u;have:da=.fields ts:=e6;subst this;show({ cls:=c,dict:=d,data:=.fields (ts.setIfInBounds 3 Value.none),slots:=sl }:Obj)=_;have:ts.setIfInBounds 3 Value.none=ts:=by
     refine Qex fun j=>?_;by_cases hj:3=j
     .subst hj;rw[U_ Z,e7]
     .rw[Array.getElem?_setIfInBounds_ne hj]
    rw[this]
   have nf:(Qah (fun v=>v.setIfInBounds 3 Value.none) u).isFreed=false:=by obtain⟨c,d,da,sl⟩:=u;have:da=.fields ts:=e6;subst this;rfl
   have:=Qap (Qah fun v=>v.setIfInBounds 3 Value.none) Y nf;rw[mf]at this;exact this
  .rw[Qar _ _ _ _ hb];exact e
 refine Qan (hs pz _ σ _ _ (Inv.held I2 (.ref a)) q) (fun f s4 h4=>?_) fun _ _ z=>Qai z;cases f with
|next=>obtain⟨σ',H2,I4,k⟩:=h4;exact⟨σ',H2,Inv.unheld I.ok.hd I4,k⟩
|brk=>obtain⟨σ',H2,I4,k⟩:=h4;exact k.elim
|cont=>obtain⟨σ',H2,I4,k⟩:=h4;exact k.elim
|ret u=>obtain⟨v,σ',H2,I4,rv,k⟩:=h4;exact⟨v,σ',H2,Inv.unheld I.ok.hd I4,rv,k⟩
theorem Qv{xT:Str}{bm bmT:List a_}{np Y:Pos}{LE:Stmt}{U:List Stmt}{D:Ends}{rest:List QbQ}{s1:c_}{oe:Obj}{H1:Hp}(I1:Inv X pz σ H1 s1)(e1:s1.heap.get? a=some oe)(e2:oe.cls=.ref C)(cT:X.mg xT=some (.ref T))(oT:XO X.K T bmT)(Z:bmT.contains (Value.type "BaseException")=true)(oC:XO X.K C bm)(hit:(Value.ref C::bm).contains (.ref T)=false)(hg:Gl X xT)(q:x_ (E_ X.prog X.w) X.A (QeX (.ref a) X.env rest) (SP X pz D) X.xe s1)(BT:(xT==("__debug__" : Str))=false:=by decide):x_ (E_ X.prog X.w) X.A (QeX (.ref a) X.env (.ExceptHandler (some (.Name xT np)) none (LE::U) Y::rest)) (SP X pz D) X.xe s1:=by refine Qel ?_ (by intro z;cases z);have Ih:=Inv.held I1 (.ref a);refine Qd6 (j9 (X:=X.held (.ref a)) Ih hg cT ?_ BT);obtain⟨N1,W4,q1,WZ,WX,W2,KK,Tm,IO,W1,a0,a1,a2,a3,a5,W0,z1⟩:=oC;obtain⟨N2,W3,q2,WY,hd2,WW,Id,ST,Cl,Ty,c0,c1,c2,c3,c5,LT,z2⟩:=oT;refine K5 (I1.kIn _ _ z1) (I1.kIn _ _ z2) e1 e2 Z ?_;rw[hit,if_neg d_];exact q
end
theorem gK.or{K:W.Frag}{T:Addr}{h1 h2:Str->Bool}(a:gK K T h1)(b:gK K T h2):gK K T fun nm=>h1 nm || h2 nm:=fun nm C h xn=>by
 rcases(Qfm _ _).mp h with h|h
 .exact a nm C h xn
 .exact b nm C h xn
theorem gK.no{K:W.Frag}{T:Addr}:gK K T fun _=>false:=fun _ _ h=>nomatch h
def HOk(X:Cx)(g:GE)(ro:Bool)(m1 mb:List Md)(hs:List QbQ)(fh:Str->FS):Prop:=∀{pz:List (Addr×Obj)}{σ:L2.St}{H H':Hp}{s s':c_}{a C:Addr}{od:Option Addr}{h':Heap}{oe ot:Obj}{vs ts:Array a_}{tb:Addr}{nm:Str}{r:aQ}{G G1:GH}{D:Ends},Inv X pz σ H s->Inv X pz σ (aY H' a (.ext (lh a C od))) { heap:=h',gens:=s'.gens,drawn:=s'.drawn,toks:=s'.toks,os:=s'.os } ->h'.get? a=some oe->oe.cls=.ref C->oe.data=.fields vs->vs[1]? = some (.ref tb)->h'.get? tb=some ot->ot.data=.fields ts->ts[3]? = some Value.none->XN X.K nm C->SI X g (fG m1) r G1 σ (aY H' a (.ext (lh a C od)))->cF G G1->c9 X g ro (fG m1) mb G D (fh nm r) ->x_ (E_ X.prog X.w) X.A (QeX (.ref a) X.env hs) (SP X pz D) X.xe { heap:=h',gens:=s'.gens,drawn:=s'.drawn,toks:=s'.toks,os:=s'.os }
def tu:Str->FS:=fun _ _=>.stuck
def qy(hit mis:Str->Bool)(fh:FS)(k:Str->FS):Str->FS:=fun nm r=>if hit nm=true then(match fh r with
|.nx r2=>.nx r2
|.rt d=>.rt d
|_=>.stuck)else if mis nm=true then k nm r else .stuck
def kh(m1:List Md)(fb:FS)(fh:Str->FS):FS:=fun r=>match fb r with
|.nx r'=>.nx (forget m1 r')
|.rt d=>.rt d
|.exc x r'=>(match WE x with
 |some nm=>fh nm r'
 |none=>.stuck)
|_=>.stuck
section
variable{m1:List Md}{fb fh:FS}
theorem Wd{hs:List QbQ}:HOk X g ro m1 mb hs tu:=fun _ _ _ _ _ _ _ _ _ _ _ _ q=>(show False from q).elim
theorem AO{xT:Str}{bmT:List a_}{np BT:Pos}{U:List Stmt}{Id:Stmt}{hit mis:Str->Bool}{rest:List QbQ}{k:Str->FS}(cT:X.mg xT=some (.ref T))(oT:XO X.K T bmT)(Y:bmT.contains (Value.type "BaseException")=true)(hk:j5 X.K T hit)(hm:gK X.K T mis)(hg:Gl X xT)(hs:∀a,fF (X.held (.ref a)) g ro [] (fG m1) (Id::U) fh (fG m1))(ht:HOk X g ro m1 mb rest k)(Z:(xT==("__debug__" : Str))=false:=by decide):HOk X g ro m1 mb (.ExceptHandler (some (.Name xT np)) none (Id::U) BT::rest) (qy hit mis fh k):=by
 intro pz σ H H' s s' a C od h' oe ot vs ts tb nm r G G1 D I I1 e1 e2 e3 e4 e5 e6 e7 xn si le q;unfold qy at q;split at q
 .rename_i hh;obtain⟨bm,oC,hc⟩:=hk nm C hh xn;refine R9 I I1 e1 e2 e3 e4 e5 e6 e7 cT oT Y oC hc hg (hs a).2 ⟨r,G1,SI.cx si rfl,?_⟩ Z;cases e:fh r with
 |nx r2=>rw[e]at q;exact fun σ2 G2 H2 Cl IO=>q σ2 G2 H2 (le.trans Cl) (SI.cx IO rfl)
 |rt d=>rw[e]at q;exact q
 |bk _=>rw[e]at q;exact q.elim
 |ct _=>rw[e]at q;exact q.elim
 |exc _ _=>rw[e]at q;exact q.elim
 |stuck=>rw[e]at q;exact q.elim
 .split at q
  .rename_i hh;obtain⟨bm,oC,hc⟩:=hm nm C hh xn;exact Qv I1 e1 e2 cT oT Y oC hc hg (ht I I1 e1 e2 e3 e4 e5 e6 e7 xn si le q) Z
  .exact(show False from q).elim
theorem Od{pos:Pos}{body:List Stmt}{h0:QbQ}{hs:List QbQ}{fk:Str->FS}(Z:X.stack=X.env::X.outer)(BT:X.env.frame=some X.env.locals)(hb:∀ps E,fF (X.tr ps E) g ro [] m body fb m1)(hh:HOk X g ro m1 mb (h0::hs) fk):SS X g ro mb m (.Try body (h0::hs) [] [] pos) (kh m1 fb fk) (fG m1):=by
 have Cl:(fG m1).length=m.length:=by rw[fG,l_];exact(hb [] fun _ _=>False).1
 refine⟨Cl,fun pz s σ H D I ⟨r,G,si,q⟩=>?_⟩;refine wpAny_Try_except ?_;generalize hE:(fun(e:a_)(s₁:c_)=>x_ (E_ X.prog X.w) X.A (Qda e X.env) (fun _ KK=>x_ (E_ X.prog X.w) X.A (Qb7 e none) (fun _ IO=>x_ (E_ X.prog X.w) X.A (QeX e X.env (h0::hs)) (SP X pz D) X.xe IO) X.xe KK) X.xe s₁)=E';have key:c9 (X.tr (X.pn++pz) E') g ro m1 [] G { nx:=D.nx,rt:=D.rt } (fb r):=by unfold kh at q;cases e:fb r with
 |nx r'=>rw[e]at q;exact fun σ' G' H' le si'=>q σ' G' H' le (SI.cx (X':=X) si' rfl).forget
 |rt d=>rw[e]at q;exact q
 |bk r'=>rw[e]at q;exact q.elim
 |ct r'=>rw[e]at q;exact q.elim
 |stuck=>rw[e]at q;exact q
 |exc x r'=>
   rw[e]at q;intro pins' ev s' σ' G' H' le si' I' ex;obtain⟨Id,s1,H1,a,C,od,nm,ds,rfl,rfl,xn,xf,I1,fl⟩:=ex;show E' (.ref a) s';rw[<-hE];replace q:c9 X g ro (fG m1) mb G D (fk nm r'):=q;have I0:Inv X pz σ' H1 s1:=Inv.untr I1;refine Fly.noted (X:=X) fl I0 Z BT fun h' oe vs tb ot ts I2 U e1 e2 e3 e4 e5 e6 e7=>?_;have Y:G' a=none:=si'.gok.isN U;have ge:∀b d,G' b=some d->gset G' a (xD nm ds) b=some d:=fun b d e=>by
    have:b≠a:=by rintro rfl;rw[Y]at e;cases e
    rw[gN this];exact e
   have w:Grow X.K G' H' (gset G' a (xD nm ds)) (aY H' a (.ext (lh a C od))):=by
    refine⟨fun b d e=>?_,fun b o e=>?_,ge,fun b h=>?_⟩
    .by_cases hb:b=a
     .subst hb;rw[gr]at e;cases e;exact .exc cV xn (xf.mono ge)
     .rw[gN hb]at e;exact(si'.gok b d e).mono ge fun o z=>by rw[bT hb];exact z
    .have:b≠a:=by rintro rfl;rw[U]at e;cases e
     rw[bT this];exact e
    .have:b≠a:=by rintro rfl;exact h U
     exact gN this
   exact hh I0 I2 e1 e2 e3 e4 e5 e6 e7 xn ((SI.cx (X':=X) si' rfl).grow w) (le.trans w.ge) q
 refine Qan ((hb (X.pn++pz) E').2 [] s σ H _ (Inv.tr I E') ⟨r,G,SI.cx si rfl,key⟩) (fun f s1 h1=>?_) fun e s1 h1=>?_
 .have h2:=SP.untr h1;cases f with
 |next=>obtain⟨σ',H',I',k⟩:=h2;exact QbM ⟨σ',H',I',k⟩
 |brk=>obtain⟨σ',H',I',k⟩:=h2;exact k.elim
 |cont=>obtain⟨σ',H',I',k⟩:=h2;exact k.elim
 |ret u=>exact h2
 .exact h1
end
def lV(K:W.Frag)(nm:Str)(ms:List Md)(F:List D->Res D):Sp:=fun vs H Q E=>∃G k fs ds,cp K G H/\ArgsOk K G H (.sh::ms) vs (.obj 2 ((k,.str nm)::fs)::ds)/\fin (F (.obj 2 ((k,.str nm)::fs)::ds)) (fun d=>∀v G' H',Grow K G H G' H'->RV false K H G' H' v d->Q v H') fun x=>∀C od nm fs G' H',x=xD nm fs->XN K nm C->XF G' od fs->Grow K G H G' H'->E (.ref C) od H'
structure CalleeMX(P:H_)(w:Z_)(K:W.Frag)(mg:Str->Option a_)(base:Heap)(mt:Str)(ps:List Str)(k:Nat)(hit:Str->Bool)(ms:List Md)(F:List D->Res D):Prop where
 ex:∀nm C,hit nm=true->XN K nm C->Cls K C/\∃f fd,Meth K C mt f/\g5 K fd ps []/\FnOk P w K mg base (mq P w) k f fd ps (lV K nm ms F)
variable{ps:List Str}{mt:Str}{hit:Str->Bool}{ms:List Md}{F:List D->Res D}
section
variable{k:Nat}{hit':Str->Bool}{F':List D->Res D}
theorem Ix{nm:Str}{vs:List V}{H:Hp}{Q:VK}{E:XK}(hF:∀k fs ds,F' (.obj 2 ((k,.str nm)::fs)::ds)=F (.obj 2 ((k,.str nm)::fs)::ds))(h:lV K nm ms F' vs H Q E):lV K nm ms F vs H Q E:=by obtain⟨G,k,fs,ds,gk,rs,q⟩:=h;rw[hF]at q;exact⟨G,k,fs,ds,gk,rs,q⟩
theorem CalleeMX.mono{j:Nat}(c:CalleeMX P w K mg base mt ps j hit ms F)(h:j<=k):CalleeMX P w K mg base mt ps k hit ms F:=⟨fun nm C hh xn=>let⟨cl,f,fd,m,b,fo⟩:=c.ex nm C hh xn;⟨cl,f,fd,m,b,fo.mono h⟩⟩
theorem CalleeMX.or(c:CalleeMX P w K mg base mt ps k hit ms F)(c':CalleeMX P w K mg base mt ps k hit' ms F'):CalleeMX P w K mg base mt ps k (fun nm=>hit nm || hit' nm) ms (jN hit F F'):=by refine⟨fun nm C hh xn=>?_⟩;cases e:hit nm with
|true=>obtain⟨cl,f,fd,m,b,fo⟩:=c.ex nm C e xn;refine⟨cl,f,fd,m,b,fo.imp fun vs H Q E h=>Ix (fun k fs ds=>?_) h⟩;show(if hit nm=true then _ else _)=_;rw[if_pos e]
|false=>rw[e,Qeo]at hh;obtain⟨cl,f,fd,m,b,fo⟩:=c'.ex nm C hh xn;refine⟨cl,f,fd,m,b,fo.imp fun vs H Q E h=>Ix (fun k fs ds=>?_) h⟩;show(if hit nm=true then _ else _)=_;rw[if_neg (by rw[e];exact d_)]
theorem pP{nm mt qual:Str}{st:Stmt}{N ps:List Str}{k:Nat}{ms:List Md}{fs:FS}{m':List Md}(A:MethAt K nm mt qual st)(S:FnScope N ps (aF st))(hms:ms.length+1=ps.length)(hb:∀(kV doc pm:a_)(an:Option Addr)(cdv ct:a_)(us:List a_),us.length=ps.length->QbN (W.fnOf mt qual (aU st) (aN st) (aF st) .none kV doc pm an cdv ct) ⟨us,[]⟩=pure (ps.zip us))(U:∀(f:Addr)(cdv:a_)(A:Qag)(outer:List Env)(s:c_)(H:Hp)(g:GE)(E:XK),Room k (A.deeper (QbJ qual (aF st) s.heap.objs.size f cdv)) ->fF (cw (mq P w) P w K mg base N qual (aF st) f cdv A outer s H E) g false [] (hX N.length (.sh::ms)) (aN st) fs m'):CalleeMX P w K mg base mt ps (k+1) (fun x=>x==nm) ms fun ds=>aT false (fs (bL N.length ds)):=by obtain⟨C,f,fd,hC,cl,me,F⟩:=A.ex;refine⟨fun Y C' hh xn=>?_⟩;have e:=QaQ hh;subst e;have:=hC C' xn;subst this;exact⟨cl,f,fd,me,F.binds hb,(G6 F S (by rw[K_];exact hms) (U f)).imp fun vs H Q E ⟨G,k,fs,ds,gk,rs,q⟩=>⟨G,_,gk,rs,q⟩⟩
end
def lp(hit:Str->Bool)(mt:Str)(fo:FE)(fl:aQ->Res (List D))(F:List D->Res D):FE:=fun r=>(fo r).bind fun d=>match d with
|.obj 2 ((k,.str nm)::fs)=>if hit nm=true/\fs.lookup mt=none then(fl r).bind fun ds=>F (.obj 2 ((k,.str nm)::fs)::ds)else .stuck
|_=>.stuck
section
variable{o:Expr}{es:List Expr}{fo:FE}{k:Nat}
theorem vD{pl:Sem Bool}(c:CalleeMX X.prog X.w X.K X.mg X.base mt ps k hit ms F)(hr:Room k X.A)(ho:SE X g m o fo)(ha:iZ X g m (e::es) ms fl)(Y:h_ (e::es) X.env=(false,eval e X.env)::h_ es X.env:=by rfl)(hpl:(backTo pos (h_ es X.env)).any (·.1)=false:=by rfl)(ht:eval (.Call (.Attribute o mt apos) (e::es) [] pos) X.env=(do
   let ov <-eval o X.env
   QdJ apos.atName
   let(f,first) <-Qcz [ov] (QdC ov mt pl)
   QeK pos f first (backTo pos (h_ (e::es) X.env)) (Qdf pos (QbY [] X.env))):=by rfl):SE X g m (.Call (.Attribute o mt apos) (e::es) [] pos) (lp hit mt fo fl F):=by
 intro pz s σ H Q I ⟨r,G,si,q⟩;refine Kb (pl:=pl) ho I ⟨r,G,si,cJ (cN q) fun d q1 v G1 H1 w1 r1=>?_⟩ ht;split at q1
 .rename_i k nm fs;split at q1
  .rename_i hh;obtain⟨a,C,dx,fv,rfl,Z,xn,rf,rg⟩:=RB.ins w1.ok r1.rb;obtain⟨cl,f,fd,me,bd,BT⟩:=c.ex nm C hh.1 xn;refine⟨a,C,dx,fv,f,rfl,Z,cl,me,rf.no hh.2,fun s1 I1=>?_⟩;refine W.callWith_K (first:=[.ref a]) (h₀:=X.base) I.ok.mod.kin me.kp (bR (ha pos pz s1 σ H1 (fun vs H2=>∃E,lV X.K nm ms F (.ref a::vs) H2 Q E/\Ar X σ H2 E) I1 ⟨r,G1,si.grow w1,?_⟩) fun us s2 ⟨vs,H2,I2,r2,E,q2,px⟩=>⟨I2.kIn,?_⟩) Y hpl
   .cases ez:fl r with
   |ok zs=>
     rw[ez,bind_ok]at q1;intro vs G2 H2 w2 rs;refine⟨fun cls od H3=>∃C' U fs' G3,cls=.ref C'/\F (.obj 2 ((k,.str nm)::fs)::zs)=.exc (xD U fs')/\XN X.K U C'/\XF G3 od fs'/\Grow X.K G2 H2 G3 H3,⟨G2,_,fs,zs,w2.ok,.sh (rg.mono w2.ge) rs,?_⟩,?_⟩
     .cases ef:F (.obj 2 ((k,.str nm)::fs)::zs)with
     |ok d=>rw[ef]at q1;exact fun v G3 H3 w3 rv=>q1 v G3 H3 (w1.trans (w2.trans w3)) rv
     |exc y=>exact fun C od nm fs G3 H3 hy xn xf w3=>⟨C,nm,fs,G3,rfl,by rw[hy],xn,xf,w3⟩
     |stuck=>rw[ef]at q1;exact q1
     .intro pins2 s2 a2 cls od H3 s' I2 fl2 ⟨C',U,fs',G3,hc,ef,xn',xf,w3⟩;subst hc;rw[ef]at q1;exact q1 pins2 (.ref a2) s' G3 H3 (w1.trans (w2.trans w3)) (fl2.inv I2) ⟨pins2,s2,H2,a2,C',od,U,fs',rfl,rfl,xn',xf,I2,fl2⟩
   |exc x=>rw[ez]at q1;exact XW.grow q1 w1
   |stuck=>rw[ez]at q1;exact q1
   .exact Ht (dvs:=[]) (ds:=[]) (us:=.ref a::us) (vs:=.ref a::vs) BT hr bd .nil I2 px (.cons rfl r2) (by rw[W_];exact q2)
  .exact q1.elim
 .exact q1.elim
end
theorem Sv{K:W.Frag}{G:GH}{H:Hp}{x dx C:Addr}{nm:Str}(gk:cp K G H)(h1:H x=none)(h2:H dx=none)(h3:dx≠x)(xn:XN K nm C):Grow K G H (gset G x (iD nm [])) (aY (aY H dx (.own x)) x (.ins C dx [])):=by
 have he:∀b o,H b=some o->aY (aY H dx (.own x)) x (.ins C dx []) b=some o:=fun b o hb=>by rw[bT (fun z=>by rw[z,h1]at hb;cases hb),bT (fun z=>by rw[z,h2]at hb;cases hb)];exact hb
 have gx:G x=none:=gk.isN h1;have ge:∀b d,G b=some d->gset G x (iD nm []) b=some d:=fun b d hb=>jW gx b d hb;refine⟨fun b d e=>?_,he,ge,fun b hb=>gN (fun z=>hb (by rw[z];exact h1))⟩;by_cases hb:b=x
 .subst hb;rw[gr]at e;cases e;exact .ins cV xn .nil
 .rw[gN hb]at e;exact(gk b d e).mono ge fun o z=>he b o z
theorem O9:builtinKind "object.__init__" = some .slot:=by decide+kernel
theorem R1:splitId "object.__init__" = some ("object","__init__"):=by decide+kernel
theorem PD:Qev (.builtin "object.__init__")=pure (.type "wrapper_descriptor"):=by
 unfold Qev
 kernel_rfl
structure MkP(K:W.Frag)(mg:Str->Option a_)(x nm:Str)(C:Addr):Prop where
 at_:mg x=some (.ref C)
 xn:XN K nm C
 makes:W.makesIn K C=true
 init:W.findIn K (.ref C) "__init__" = some (some (.builtin "object.__init__"))
 kp:W.keepIn K (.ref C)=true
section
variable{ms':List Md}{x:Str}{k:Nat}{F:nu}{dvs:List V}{dv:List a_}{dds:List D}
theorem SX{pz:List (Addr×Obj)}{σ:L2.St}{H:Hp}{s:c_}{Q:VK}(M:MkP X.K X.mg x nm C)(I:Inv X pz σ H s)(h:∀a dx,H a=none->H dx=none->dx≠a->Q (.ref a) (aY (aY H dx (.own a)) a (.ins C dx []))):x_ (E_ X.prog X.w) X.A (call (.ref C) []) (EP X pz σ Q) X.xe s:=by
 have hq:=h (s.heap.objs.size+1) s.heap.objs.size (I.hok.fresh (QcU _)) (I.hok.fresh (r_ _)) (S_ (Qa1 _));have I2:=Inv.made (C:=C) I;refine Qco (Sn I.kIn M.makes M.init (fun self A Q E s' _ hQ=>?_) ?_)
 .unfold Qfe;rw[PD];refine b_ (n_ ?_);rw[if_pos (by decide)];exact n_ hQ
 .refine QcV F.slot_object_init.plain F.entry_object_init ?_;have hx:((s.heap.push W.emptyDict).push (W.instObj C s.heap.objs.size)).get? (s.heap.objs.size+1)=some (W.instObj C s.heap.objs.size):=by have:=B_ (s.heap.push W.emptyDict) (o:=W.instObj C s.heap.objs.size) rfl;rw[QbX]at this;exact this
  have fin:∀{Q:Fin->c_->Prop}{E:a_->c_->Prop}{A:Qag}{s':c_},Q (.done (.ret .none)) s'->x_ (E_ X.prog X.w) A (QdL.«object.__init__» ⟨[.ref (s.heap.objs.size+1)],[]⟩) Q E s':=fun h=>by unfold QdL.«object.__init__»;exact n_ h
  unfold checkBuiltinCall;simp only[O9,R1];refine b_ ?_;unfold QeA;refine b_ (Qb9 hx ?_);refine(W.makes_of I2.kIn M.makes).top _ _ _ _ (fun _ _ z=>z) ?_;rw[if_neg (by simp)];have:=F.args_object_init_1 (.ref (s.heap.objs.size+1));unfold argsOk at this;revert this;generalize Manifest.signature? "object.__init__" = sg;intro this;cases sg with
 |none=>exact n_ (fin ⟨rfl,V.ref (s.heap.objs.size+1),_,I2,rfl,hq⟩)
 |some sig=>have e:QfI "object.__init__" sig ⟨[.ref (s.heap.objs.size+1)],[]⟩=pure ():=this;show x_ _ _ (QfI "object.__init__" sig ⟨[.ref (s.heap.objs.size+1)],[]⟩) _ _ _;rw[e];exact n_ (fin ⟨rfl,V.ref (s.heap.objs.size+1),_,I2,rfl,hq⟩)
theorem HS(M:MkP X.K X.mg x nm C)(hg:Gl X x:=by rfl)(U:(x==("__debug__" : Str))=false:=by decide):SE X g m (.Call (.Name x p) [] [] pos) fun _=>.ok (iD nm []):=by intro pz s σ H Q I ⟨r,G,si,q⟩;refine QaL (j9 I hg M.at_ ?_ U);exact W.callWith_K0 I.kIn M.kp (SX M I fun a dx h1 h2 h3=>q _ _ _ (Sv si.gok h1 h2 h3 M.xn) (.ref gr))
theorem HR(c:CalleeN X.prog X.w X.K X.mg X.base x nm ps dv k ms' F)(hr:Room (k+1) X.A)(hms:ms'=p_ dds.length .sh:=by rfl)(hg:Gl X x:=by rfl)(hd:aP dvs dv:=by exact .nil)(hsc:Paired Scl dvs dds:=by exact .nil)(U:(x==("__debug__" : Str))=false:=by decide):SE X g m (.Call (.Name x p) [] [] pos) (jm nm aH dds F):=by subst hms;obtain⟨C,f,fd,h1,h2,h3,h4⟩:=c.ex;refine PE.imp (QQ h2 h4 hr hg h1 h3 hd qI U) fun σ H Q ⟨r,G,si,q⟩=>?_;refine make_core (ms:=[]) si.gok .nil hsc (wR q ?_);intro e he;split at he <;> cases he
end
structure MakeAtD(K:W.Frag)(mg:Str->Option a_)(x nm qual:Str)(st:Stmt)(dds:List a_):Prop where
 ex:∃(C f T:Addr)(o:Obj)(n:Nat)(oc:a_)(od:Option Addr)(kV doc pm:a_)(an:Option Addr)(cdv ct:a_)(osl:Array (Option a_)),mg x=some (.ref C)/\XN K nm C/\Cls K C/\Mk K C f /\K.lookup T=some o/\o.data=.seq dds.toArray n/\K.lookup f=some ⟨oc,od,.func (W.fnOf "__init__" qual (aU st) (aN st) (aF st) (.ref T) kV doc pm an cdv ct),osl⟩/\W.codeIn K cdv qual=true
theorem vY{x nm qual:Str}{st:Stmt}{N ps:List Str}{k:Nat}{ms:List Md}{fn:FN}{dds ds:List a_}(A:MakeAtD K mg x nm qual st dds)(S:FnScope N ps (aF st))(hms:ms.length+1=ps.length)(nn:Nat)(hn:nn+ds.length=ps.length)(hb:∀(T:Addr)(kV doc pm:a_)(an:Option Addr)(cdv ct:a_)(us:List a_),us.length=nn->∃kk:Option (Array a_)->Sem (List (Str×a_)),QbN (W.fnOf "__init__" qual (aU st) (aN st) (aF st) (.ref T) kV doc pm an cdv ct) ⟨us,[]⟩=Qei (.ref T) >>= kk/\kk (some dds.toArray)=pure (ps.zip (us++ds)))(U:∀(C:Addr),XN K nm C->∀(f:Addr)(cdv:a_)(A:Qag)(outer:List Env)(s:c_)(H:Hp)(g:GE)(E:XK),Room k (A.deeper (QbJ qual (aF st) s.heap.objs.size f cdv)) ->Ae (cw dm P w K mg base N qual (aF st) f cdv A outer s H E).nox g (hX N.length (.sh::ms)) C (aN st) fn):CalleeN P w K mg base x nm ps ds (k+1) ms fun ds=>fn (none::(ds.map some++p_ (N.length-(ds.length+1)) none)) []:=by
 obtain⟨C,f,T,o,n,oc,od,kV,doc,pm,an,cdv,ct,osl,h1,xn,cl,mk,hT,hd,lk,Y⟩:=A.ex;refine⟨C,f,W.fnOf "__init__" qual (aU st) (aN st) (aF st) (.ref T) kV doc pm an cdv ct,h1,mk,fun s us KX hl=>?_,?_⟩
 .obtain⟨kk,e1,e2⟩:=hb T kV doc pm an cdv ct us (by rw[Y_]at hl;omega);exact Qc3 rfl (KX _ _ hT) hd e1 e2
 refine qw lk Y S (fun vs H Q E ⟨G,H1,a,dx,us,ds,_,_,_,_,hv,gk,rs,q⟩=>by rw[hv,K_,rs.len.1];exact hms) fun A outer s H vs Q E hr h=>?_;obtain⟨G,H1,a,dx,us,ds,rfl,h1,h2,h3,rfl,gk,rs,q⟩:=h;have hpl:ps.length<=N.length:=by have:=congrArg Qb0 S.pre;rw[QaO]at this;omega
 refine⟨_,(U C xn f cdv A outer s _ ⟨G,H1,fun _=>none⟩ E hr).nox,_,[],G,a,dx,R3 gk rs (by omega) h1 h2 h3,?_⟩;cases ez:fn (none::(ds.map some++p_ (N.length-(ds.length+1)) none)) []with
|ok fd=>simp only[ez]at q;have q':=q;intro G' H' le ni;obtain⟨fs,ho,rf⟩:=ni.ob;have w:=ni.si.grown;refine q' (gset G' a (iD nm fd)) H' ⟨ni.si.gok.gset ni.gx (.ins ho xn rf),w.he,fun b d hb=>jW ni.gx b d (w.ge b d hb),fun b hb=>?_⟩ gr;rw[gN (fun z=>hb (by rw[z];exact h1))];exact w.gf b hb
|exc e=>simp only[ez]at q;exact q
|stuck=>simp only[ez]at q;exact q
theorem E7{K:W.Frag}{mg:Str->Option a_}{x nm qual:Str}{st:Stmt}{C f T:Addr}{dds:List a_}{oc tc:a_}{od an td:Option Addr}{osl U:Array (Option a_)}{n:Nat}{kV doc pm cdv ct:a_}(o:OC K nm C)(hm:mg x=some (.ref C))(h1:W.makesIn K C=true)(h2:W.findIn K (.ref C) "__init__" = some (some (.ref f)))(h3:W.isFn K (.ref f)=true)(h4:W.keepIn K (.ref C)=true)(l:K.lookup f=some ⟨oc,od,.func (W.fnOf "__init__" qual (aU st) (aN st) (aF st) (.ref T) kV doc pm an cdv ct),osl⟩)(t:K.lookup T=some ⟨tc,td,.seq dds.toArray n,U⟩)(c:W.codeIn K cdv qual=true):MakeAtD K mg x nm qual st dds:=⟨C,f,T,_,n,oc,od,kV,doc,pm,an,cdv,ct,osl,hm,o.xn,o.cl,⟨h1,h2,h3,h4⟩,t,rfl,l,c⟩
end DL
namespace DL
open PySem PySem.Spec PyProof.Rows L2 PySem.W PySem.Calls PySem.Builtin PySem.Builtin.Str
end DL
section
namespace L2
open PySem PySem.Spec PyProof.Rows
theorem dW{sc:Qct}{x:Str}(h:(match sc.names.lookup x with|some .local=>true|some .cell=>true|_=>false)=true):kF sc x:=by
 revert h;unfold kF;split <;> intro h
 .exact .inl (by assumption)
 .exact .inr (by assumption)
 .cases h
theorem bZ{N P:List Str}{sc:Qct}(h:(decide (sc.kind=.function) && ! sc.isCoroutine && ! sc.isGenerator&&decide N.Nodup&&decide (N.take P.length=P)&&(P.all fun x=>match sc.names.lookup x with|some .local=>true|some .cell=>true|_=>false)&&sc.names.all fun y=>decide (y.2≠.free))=true:=by decide+kernel):FnScope N P sc:=by simp only[M_,decide_eq_true_eq,QbT,Qbb]at h;obtain⟨⟨⟨⟨⟨⟨a,b⟩,c⟩,d⟩,e⟩,f⟩,k⟩:=h;exact⟨a,b,c,d,e,fun x hx=>dW (f x hx),k⟩
end L2
namespace DL
open PySem PySem.Spec PyProof.Rows L2
section
variable{X:Cx}{g:GE}{m mb ms:List Md}{e a b:Expr}{es:List Expr}{f fa fb:FE}{x:Str}{p pos pos':Pos}{ro:Bool}{fl:aQ->Res (List D)}{k:Nat}{ps:List Str}{F:List D->Res D}
theorem bE(h:SE X g m e f):SB X g m e f:=SE.toB h
theorem iB{i:Int}{j:Nat}:SB X g m (.Constant (.int i) j pos) fun _=>.ok (.int i):=bE nA
theorem xB(hu:X.A.units+1<Qbx)(ha:SB X g m a fa)(hb:SB X g m b fb)(hs:Bn b:=by intro _ _;rfl):SB X g m (.Subscript a b pos) (f2 fa fb bY):=bE (hJ hu ha hb hs)
theorem cZ(i:Nat)(hN:X.N.Nodup)(he:SE X g m e f)(hi:X.N[i]? = some x:=by rfl)(hx:kF X.env.scope x:=by exact dW rfl)(hs:Qb5 e (some (.Name x pos')) pos.line X.env=pure false:=by rfl)(hf:X.fn x=true\/X.env.scope.names.lookup x=some .local:=by first|exact .inl rfl|exact .inr rfl|assumption):SS X g ro mb m (.Assign [.Name x pos'] e pos) (aR m i f) (m.set i .sh):=V2 i hN hi hx he hs hf
theorem c8(i:Nat)(hN:X.N.Nodup)(hi:X.N[i]? = some x:=by rfl)(hx:kF X.env.scope x:=by exact dW rfl)(hf:X.fn x=true\/X.env.scope.names.lookup x=some .local:=by first|exact .inl rfl|exact .inr rfl|assumption):SG X g m (.Name x pos) (bS i) (m.set i .sh):=L5 i hN hi hx hf
theorem bK(c:Callee X.prog X.w X.K X.mg X.base x ps [] k false ms F)(ha:iZ X g m (e::es) ms fl)(hr:Room k X.A:=by exact Room.mono ‹_› (by decide))(hg:Gl X x:=by rfl)(U:(x==("__debug__" : Str))=false:=by decide)(he:h_ (e::es) X.env=(false,eval e X.env)::h_ es X.env:=by rfl)(hpl:(backTo pos (h_ es X.env)).any (·.1)=false:=by rfl):SE X g m (.Call (.Name x p) (e::es) [] pos) (bI fl [] F):=qU (dds:=[]) c hr ha (by simp) hg .nil .nil U he hpl
end
theorem du{P:H_}{w:Z_}{K:W.Frag}{mg:Str->Option a_}{base:Heap}{x:Str}{st:Stmt}{N ps:List Str}{k:Nat}{ro:Bool}{ms:List Md}{fs:FS}{m':List Md}(A:DefAt K mg x st)(S:FnScope N ps (aF st))(U:∀(f:Addr)(cdv:a_)(A:Qag)(outer:List Env)(s:c_)(H:Hp)(g:GE)(E:XK),Room k (A.deeper (QbJ x (aF st) s.heap.objs.size f cdv))->(A.deeper (QbJ x (aF st) s.heap.objs.size f cdv)).units+1<Qbx ->fF (cw dm P w K mg base N x (aF st) f cdv A outer s H E).nox g ro [] (hX N.length ms) (aN st) fs m')(hms:ms.length=ps.length:=by rfl)(hb:∀(kV doc pm:a_)(an:Option Addr)(cdv ct:a_)(us:List a_),us.length=ps.length->QbN (W.fnOf x x (aU st) (aN st) (aF st) .none kV doc pm an cdv ct) ⟨us,[]⟩=pure (ps.zip us):=by intro _ _ _ _ _ _ us hl;rcases us with _|⟨_,_|⟨_,_|⟨_,_|⟨_,_|⟨_,_|⟨_,_⟩⟩⟩⟩⟩⟩ <;> first|(exfalso;revert hl;simp;done)|kernel_rfl):Callee P w K mg base x ps [] (k+1) ro ms fun ds=>aT ro (fs (bL N.length ds)):=AM A S hms hb fun f cdv A outer s H g E hr=>U f cdv A outer s H g E hr (dH hr)
end DL
end
section
namespace Rg
theorem rV{α:Type}[DecidableEq α]:∀{l m:List α},l.Nodup->(∀x∈l,x∈m)->l.length<=m.length
|[],_,_,_=>Qaf _
|a::l,m,hn,hs=>by
  have U:=Qa5.mp hn;have h1:=rV (l:=l) (m:=m.erase a) U.2 fun x hx=>by
   have Y:x≠a:=by rintro rfl;exact U.1 hx
   exact(List.mem_erase_of_ne Y).mpr (hs x (k_ _ hx))
  have ha:a∈m:=hs a j_;rw[Qdz ha]at h1;have:=Qa7 ha;simp only[K_];omega
theorem xO{α:Type}(p:α->Bool)(l:List α):(l.filter p).length+(l.filter fun x=>! p x).length=l.length:=by induction l with
|nil=>rfl
|cons a l ih=>simp only[Qau];cases p a <;> simp <;> omega
theorem Dj{α:Type}{p:α->Bool}{l:List α}(h:l.Nodup):(l.filter p).Nodup:=List.Pairwise.filter p h
structure S where
 line:List Nat
 things:List Nat
section
variable(W:Nat->List Nat)(O:Nat->Option Nat)
def best(row things:List Nat):Nat:=(row.find? fun x=>decide (x∈things)).getD 0
def e8(s:S)(h:Nat):Nat:=best (W h) s.things
def pt(s:S)(x:Nat):Nat:=(s.line.find? fun h=>decide (O h=some x)).getD (s.line.headD 0)
def gA(s:S)(h:Nat):Nat:=pt O s (e8 W s h)
def minus(s:S)(C:List Nat):S:=⟨s.line.filter fun h=>decide (h∉C),s.things.filter fun x=>decide (x∉C.map (e8 W s))⟩
def it{α:Type}(f:α->α):Nat->α->α
|0,x=>x
|n+1,x=>it f n (f x)
theorem ly{α:Type}(f:α->α):∀(a b:Nat)(x:α),it f (a+b) x=it f b (it f a x)
|0,b,x=>by rw[QbL];rfl
|a+1,b,x=>by rw[Nat.add_right_comm];exact ly f a b (f x)
theorem pG{α:Type}(f:α->α)(n:Nat)(x:α):it f (n+1) x=f (it f n x):=ly f n 1 x
theorem AJ{α:Type}(f:α->α){p:Nat}{x:α}(h:it f p x=x):∀k,it f (p*k) x=x
|0=>rfl
|k+1=>by rw[Nat.mul_succ,ly,AJ f h k,h]
structure Ok(s:S):Prop where
 nl:s.line.Nodup
 nt:s.things.Nodup
 le:s.line.length<=s.things.length
 row:∀h∈s.line,∀x∈s.things,x∈W h
 inj:∀h k x,O h=some x->O k=some x->h=k
 own:∀h∈s.line,∀x,O h=some x->x∈s.things
structure Cyc(s:S)(C:List Nat):Prop where
 sub:∀h∈C,h∈s.line
 cl:∀h∈C,gA W O s h∈C
 per:∀h∈C,∃k,it (gA W O s) (k+1) h=h
variable{W O}
theorem A5{row things:List Nat}(h:∃x∈row,x∈things):best row things∈things:=by unfold best;cases e:row.find? fun x=>decide (x∈things)with
|none=>obtain⟨x,h1,h2⟩:=h;have:=QaM.mp e x h1;simp[h2]at this
|some x=>have:=Qc1 e;simpa using this
theorem Ro{row things t':List Nat}(hs:∀x∈t',x∈things)(hb:best row things∈t')(hr:best row things∈row):best row t'=best row things:=by unfold best at *;cases e:row.find? fun x=>decide (x∈things)with
|none=>rw[e]at hb hr;have:=QaM.mp e _ hr;simp only[decide_eq_true_eq]at this;exact absurd (hs _ hb) this
|some x=>
  rw[e]at hb;simp only[Qe8]at hb ⊢;obtain⟨hx,as,bs,rfl,h2⟩:=List.find?_eq_some_iff_append.mp e;rw[List.find?_append];have:as.find? (fun y=>decide (y∈t'))=none:=QaM.mpr fun y hy=>by have:=h2 y hy;simp only[QbT,decide_eq_false_iff_not]at this;simp only[decide_eq_true_eq];exact fun z=>this (hs y z)
  rw[this];simp[X_,hb]
theorem Rm{row things:List Nat}(h:∃x∈row,x∈things):best row things∈row:=by unfold best;cases e:row.find? fun x=>decide (x∈things)with
|none=>obtain⟨x,h1,h2⟩:=h;have:=QaM.mp e x h1;simp[h2]at this
|some x=>exact Qcb e
variable{s:S}
theorem Ok.some_thing(k:Ok W O s){h:Nat}(hh:h∈s.line):∃x∈W h,x∈s.things:=by have h1:=Qa7 hh;have h2:0<s.things.length:=G_ h1 k.le;obtain⟨x,hx⟩:=List.exists_mem_of_length_pos h2;exact⟨x,k.row h hh x hx,hx⟩
theorem Ok.tgt_mem(k:Ok W O s){h:Nat}(hh:h∈s.line):e8 W s h∈s.things:=A5 (k.some_thing hh)
theorem Ok.tgt_row(k:Ok W O s){h:Nat}(hh:h∈s.line):e8 W s h∈W h:=Rm (k.some_thing hh)
theorem FJ{x:Nat}(h:s.line≠[]):pt O s x∈s.line:=by unfold pt;cases e:s.line.find? fun h=>decide (O h=some x)with
|none=>cases q:s.line with
 |nil=>exact absurd q h
 |cons a l=>simp[List.headD]
|some y=>exact Qcb e
theorem On(k:Ok W O s){h x:Nat}(hh:h∈s.line)(ho:O h=some x):pt O s x=h:=by unfold pt;cases e:s.line.find? fun h=>decide (O h=some x)with
|none=>have:=QaM.mp e h hh;simp[ho]at this
|some y=>have:=Qc1 e;simp only[decide_eq_true_eq]at this;exact k.inj y h x this ho
theorem AW{h:Nat}(hl:s.line≠[]):gA W O s h∈s.line:=FJ hl
theorem Cyc.it_mem{C:List Nat}(c:Cyc W O s C){h:Nat}(hh:h∈C):∀n,it (gA W O s) n h∈C:=by
 intro n
 induction n generalizing h with
|zero=>exact hh
|succ n ih=>exact ih (c.cl h hh)
theorem Qh{α:Type}{f:α->α}{x y:α}{a b:Nat}(hx:it f (a+1) x=x)(hy:it f (b+1) y=y)(e:f x=f y):x=y:=by
 have h1:=AJ f hx (b+1);have h2:=AJ f hy (a+1);rw[QeS]at h2;have h3:(a+1)*(b+1)=1+(a*b+a+b):=by rw[Qed,Nat.mul_add];omega
 rw[h3,ly]at h1 h2;have e1:it f 1 x=it f 1 y:=e;rw[e1]at h1;rw[<-h1,h2]
theorem Cyc.out{C E:List Nat}(c:Cyc W O s C)(e:Cyc W O s E){h:Nat}(hc:h∈C)(he:h∉E):gA W O s h∉E:=by intro z;obtain⟨k,hk⟩:=c.per h hc;exact he (by rw[<-hk];exact e.it_mem z k)
theorem Pv{C E:List Nat}(c:Cyc W O s C)(e:Cyc W O s E){h k:Nat}(hc:h∈C)(he:k∈E)(q:e8 W s h=e8 W s k):h=k:=by obtain⟨a,ha⟩:=c.per h hc;obtain⟨b,hb⟩:=e.per k he;exact Qh ha hb (by unfold gA;rw[q])
theorem rD(k:Ok W O s){C E:List Nat}(c:Cyc W O s C)(e:Cyc W O s E){h:Nat}(he:h∈E)(hc:h∉C):e8 W (minus W s C) h=e8 W s h:=by have hl:=e.sub h he;refine Ro (fun x hx=>(D_.mp hx).1) ?_ (k.tgt_row hl);refine D_.mpr ⟨k.tgt_mem hl,?_⟩;simp only[decide_eq_true_eq];intro z;obtain⟨h',h1,h2⟩:=A_.mp z;have:=Pv c e h1 he h2;rw[this]at h1;exact hc h1
theorem UE{p:Nat->Bool}:∀{l:List Nat}{a:Nat},l.headD 0=a->l≠[]->p a=true->(l.filter p).headD 0=a
|[],_,_,h,_=>absurd rfl h
|b::l,a,e,_,hp=>by have:b=a:=e;subst this;rw[Qau,if_pos hp];rfl
theorem IP(k:Ok W O s){C E:List Nat}(c:Cyc W O s C)(e:Cyc W O s E){h:Nat}(he:h∈E)(hc:h∉C):gA W O (minus W s C) h=gA W O s h:=by unfold gA;rw[rD k c e he hc];have hl:=e.sub h he;have hne:s.line≠[]:=Qbg hl;have ho:pt O s (e8 W s h)∉C:=e.out c he hc;have hm:pt O s (e8 W s h)∈s.line:=FJ hne;unfold pt at *;show((s.line.filter fun h=>decide (h∉C)).find? _).getD ((s.line.filter fun h=>decide (h∉C)).headD 0)=_;cases q:s.line.find? fun k=>decide (O k=some (e8 W s h))with
|none=>rw[q]at ho;simp only[QdE]at ho ⊢;have:(s.line.filter fun h=>decide (h∉C)).find? (fun k=>decide (O k=some (e8 W s h)))=none:=QaM.mpr fun y hy=>QaM.mp q y (D_.mp hy).1;rw[this];exact UE rfl hne (by simpa using ho)
|some y=>rw[q]at ho;simp only[Qe8]at ho ⊢;have hy:=Qc1 q;simp only[decide_eq_true_eq]at hy;have U:=Qcb q;cases q2:(s.line.filter fun h=>decide (h∉C)).find? (fun k=>decide (O k=some (e8 W s h)))with
 |none=>have:=QaM.mp q2 y (D_.mpr ⟨U,by simpa using ho⟩);simp[hy]at this
 |some z=>have hz:=Qc1 q2;simp only[decide_eq_true_eq]at hz;exact k.inj z y _ hz hy
theorem AF(k:Ok W O s){C:List Nat}(c:Cyc W O s C):Ok W O (minus W s C) where
 nl:=Dj k.nl
 nt:=Dj k.nt
 le:=by
  have h1:=xO (fun h=>decide (h∉C)) s.line;have h2:=xO (fun x=>decide (x∉C.map (e8 W s))) s.things;have h3:(s.things.filter fun x=>! decide (x∉C.map (e8 W s))).length<=((s.line.filter fun h=>! decide (h∉C)).map (e8 W s)).length:=by refine rV (Dj k.nt) fun x hx=>?_;obtain⟨_,hx⟩:=D_.mp hx;simp only[decide_not,Bool.not_not,decide_eq_true_eq]at hx;obtain⟨h,h1,h2⟩:=A_.mp hx;exact A_.mpr ⟨h,D_.mpr ⟨c.sub h h1,by simpa using h1⟩,h2⟩
  rw[l_]at h3;have:=k.le;show(s.line.filter _).length<=(s.things.filter _).length;omega
 row:=fun h hh x hx=>k.row h (D_.mp hh).1 x (D_.mp hx).1
 inj:=k.inj
 own:=fun h hh x hx=>by obtain⟨h1,h2⟩:=D_.mp hh;simp only[decide_eq_true_eq]at h2;refine D_.mpr ⟨k.own h h1 x hx,?_⟩;simp only[decide_eq_true_eq];intro z;obtain⟨b,b1,b2⟩:=A_.mp z;have:=c.cl b b1;unfold gA at this;rw[b2,On k h1 hx]at this;exact h2 this
def less(E C:List Nat):List Nat:=E.filter fun h=>decide (h∉C)
theorem ka{E C:List Nat}{h:Nat}:h∈less E C↔h∈E/\h∉C:=by simp[less,List.mem_filter]
theorem Ib(k:Ok W O s){C E:List Nat}(c:Cyc W O s C)(e:Cyc W O s E):Cyc W O (minus W s C) (less E C):=by
 have stay:∀n h,h∈less E C->it (gA W O (minus W s C)) n h=it (gA W O s) n h:=by
  intro n
  induction n with
 |zero=>intro h _;rfl
 |succ n ih=>intro h hh;obtain⟨h1,h2⟩:=ka.mp hh;show it _ n (gA W O (minus W s C) h)=it _ n (gA W O s h);rw[IP k c e h1 h2];exact ih _ (ka.mpr ⟨e.cl h h1,e.out c h1 h2⟩)
 refine⟨fun h hh=>?_,fun h hh=>?_,fun h hh=>?_⟩
 .obtain⟨h1,h2⟩:=ka.mp hh;exact D_.mpr ⟨e.sub h h1,by simpa using h2⟩
 .obtain⟨h1,h2⟩:=ka.mp hh;rw[IP k c e h1 h2];exact ka.mpr ⟨e.cl h h1,e.out c h1 h2⟩
 .obtain⟨h1,h2⟩:=ka.mp hh;obtain⟨n,hn⟩:=e.per h h1;exact⟨n,by rw[stay _ _ hh];exact hn⟩
theorem wQ{p q:Nat->Bool}{l:List Nat}(h:∀x∈l,p x=q x):l.filter p=l.filter q:=by induction l with
|nil=>rfl
|cons a l ih=>rw[Qau,Qau,h a j_,ih fun x hx=>h x (k_ _ hx)]
theorem Kc(k:Ok W O s){C E:List Nat}(c:Cyc W O s C)(e:Cyc W O s E):minus W (minus W s C) (less E C)=minus W s (C++E):=by
 have h1:(minus W (minus W s C) (less E C)).line=(minus W s (C++E)).line:=by show((s.line.filter _).filter _)=s.line.filter _;rw[QeB];refine wQ fun x _=>?_;by_cases hc:x∈C <;> by_cases he:x∈E <;> simp[ka,hc,he]
 have h2:(minus W (minus W s C) (less E C)).things=(minus W s (C++E)).things:=by
  show((s.things.filter _).filter _)=s.things.filter _;rw[QeB];refine wQ fun x _=>?_;have key:x∈(less E C).map (e8 W (minus W s C))↔∃h,h∈E/\h∉C/\e8 W s h=x:=by
   rw[A_];constructor
   .rintro⟨h,hh,q⟩
    obtain⟨a,b⟩:=ka.mp hh;exact⟨h,a,b,by rw[<-q,rD k c e a b]⟩
   .rintro⟨h,a,b,q⟩
    exact⟨h,ka.mpr ⟨a,b⟩,by rw[rD k c e a b];exact q⟩
  have U:x∈(C++E).map (e8 W s)↔x∈C.map (e8 W s)\/x∈(less E C).map (e8 W (minus W s C)):=by
   rw[key,P_,QaJ];constructor
   .rintro(z|z)
    .exact .inl z
    .obtain⟨h,a,b⟩:=A_.mp z;by_cases hc:h∈C
     .exact .inl (A_.mpr ⟨h,hc,b⟩)
     .exact .inr ⟨h,a,hc,b⟩
   .rintro(z|⟨h,a,_,b⟩)
    .exact .inl z
    .exact .inr (A_.mpr ⟨h,a,b⟩)
  rw[T_];simp only[M_,decide_eq_true_eq];rw[U];constructor
  .rintro⟨a,b⟩ (z|z)
   .exact b z
   .exact a z
  .intro z;exact⟨fun q=>z (.inr q),fun q=>z (.inl q)⟩
 cases e1:minus W (minus W s C) (less E C);cases e2:minus W s (C++E);rw[e1,e2]at h1 h2;simp only at h1 h2;rw[h1,h2]
theorem Tu(k:Ok W O s){C E:List Nat}(c:Cyc W O s C)(e:Cyc W O s E):minus W (minus W s C) (less E C)=minus W (minus W s E) (less C E):=by
 rw[Kc k c e,Kc k e c];unfold minus;congr 1
 .exact wQ fun x _=>by rw[T_];simp[and_comm]
 .refine wQ fun x _=>?_;rw[T_];simp only[decide_eq_true_eq,P_,QaJ];constructor <;> intro z q <;> exact z q.symm
inductive TTC(W:Nat->List Nat)(O:Nat->Option Nat)(a:Nat->Nat):S->Prop where
 |nil {s:S}:s.line=[]->TTC W O a s
 |step {s:S} (C:List Nat):Cyc W O s C->(∀h∈C,a h=e8 W s h)->TTC W O a (minus W s C)->TTC W O a s
theorem Mn{a:Nat->Nat}(t:TTC W O a s):∀(k:Ok W O s){E:List Nat},Cyc W O s E->TTC W O a (minus W s E)/\∀h∈E,a h=e8 W s h:=by induction t with
|nil h0=>intro k E e;refine⟨.nil (by unfold minus;rw[h0];rfl),fun h hh=>?_⟩;have:=e.sub h hh;rw[h0]at this;cases this
|step C c ha t ih=>
  intro k E e;obtain⟨h1,h2⟩:=ih (AF k c) (Ib k c e);refine⟨.step (less C E) (Ib k e c) (fun h hh=>?_) (by rw[<-Tu k c e];exact h1),fun h hh=>?_⟩
  .obtain⟨z1,z2⟩:=ka.mp hh;rw[rD k e c z1 z2];exact ha h z1
  .by_cases hc:h∈C
   .exact ha h hc
   .rw[h2 h (ka.mpr ⟨hh,hc⟩),rD k c e hh hc]
end
end Rg
end
section
namespace Rg
section
variable{W:Nat->List Nat}{O:Nat->Option Nat}{s:S}{a:Nat->Nat}
theorem FG{f:Nat->Nat}{l:List Nat}(hcl:∀h∈l,f h∈l){x:Nat}(hx:x∈l):∃i j,i<j/\j<=l.length/\it f i x=it f j x:=by
 have mem:∀i,it f i x∈l:=by
  intro i
  induction i with
 |zero=>exact hx
 |succ i ih=>rw[pG];exact hcl _ ih
 by_cases hn:((e_ (l.length+1)).map fun i=>it f i x).Nodup
 .have:=rV hn (m:=l) fun y hy=>by obtain⟨i,_,rfl⟩:=A_.mp hy;exact mem i
  simp at this;omega
 .apply Qbl;intro h;apply hn;rw[List.nodup_iff_pairwise_ne]at *;rw[List.pairwise_map];refine QfW (R:=fun i j=>i<j) (fun hi hj hij e=>?_) List.pairwise_lt_range;exact h ⟨_,_,hij,by have:=z_.mp hj;omega,e⟩
theorem least{P:Nat->Prop}:(∃n,P n)->∃n,P n/\∀k,k<n->¬ P k:=by
 rintro⟨n,hn⟩
 induction n using Nat.strongRecOn with
|_ n ih=>
  by_cases h:∃k,k<n/\P k
  .obtain⟨k,h1,h2⟩:=h;exact ih k h1 h2
  .exact⟨n,hn,fun k hk hp=>h ⟨k,hk,hp⟩⟩
theorem GM{α:Type}(f:α->α)(a b:Nat)(x:α):it f a (it f b x)=it f b (it f a x):=by rw[<-ly,<-ly,QeR]
theorem Tq{f:Nat->Nat}{l:List Nat}(hcl:∀h∈l,f h∈l)(hne:l≠[]):∃z p,z∈l/\0<p/\p<=l.length/\it f p z=z/\∀i,0<i->i<p->z<it f i z:=by
 have mem:∀x∈l,∀i,it f i x∈l:=by
  intro x hx i
  induction i with
 |zero=>exact hx
 |succ i ih=>rw[pG];exact hcl _ ih
 obtain⟨x,hx⟩:=Qbm l hne;obtain⟨i,j,hij,_,e⟩:=FG hcl hx;obtain⟨z,⟨hz,k,hk⟩,U⟩:=least (P:=fun z=>z∈l/\∃k,it f (k+1) z=z) ⟨it f i x,mem x hx i,j-i-1,by rw[<-ly,show i+(j-i-1+1)=j by omega];exact e.symm⟩;obtain⟨p,hp,Y⟩:=least (P:=fun p=>it f (p+1) z=z) ⟨k,hk⟩;have ge:∀i,z<=it f i z:=fun i=>by have:=U (it f i z);apply Qbl;intro h;exact this (by omega) ⟨mem z hz i,p,by rw[GM,hp]⟩
 have ne:∀i,0<i->i<p+1->it f i z≠z:=fun i h1 h2 q=>Y (i-1) (by omega) (by rw[show i-1+1=i by omega];exact q);refine⟨z,p+1,hz,Nat.succ_pos _,?_,hp,fun i h1 h2=>by have:=ge i;have:=ne i h1 h2;omega⟩;obtain⟨i,j,hij,hj,e⟩:=FG hcl hz;apply Qbl;intro h;have:it f (p+1-j+i) z=z:=by
  have h1:it f (p+1-j) (it f j z)=z:=by rw[<-ly,show j+(p+1-j)=p+1 by omega];exact hp
  rw[<-e,<-ly]at h1;rw[QeR];exact h1
 exact ne _ (by omega) (by omega) this
def j6(f:Nat->Nat)(n first:Nat):Nat->List Nat->Nat->Option (List Nat)
|0,_,_=>none
|k+1,ring,hand=>if first<hand/\ring.length<n then j6 f n first k (ring++[hand]) (f hand)else if hand=first then some ring else none
def mr(f:Nat->Nat)(n first:Nat):Option (List Nat):=j6 f n first (n+1) [first] (f first)
def jg(f:Nat->Nat)(x n:Nat):List Nat:=(e_ n).map fun i=>it f i x
theorem Ij(f:Nat->Nat)(x n:Nat):jg f x (n+1)=jg f x n++[it f n x]:=by unfold jg;rw[Qcn,P_];rfl
theorem HA(f:Nat->Nat)(x n:Nat):(jg f x n).length=n:=by simp[jg]
theorem Ul{f:Nat->Nat}{n first:Nat}:∀{k i:Nat}{r:List Nat},j6 f n first k (jg f first i) (it f i first)=some r->∃j,i<=j/\r=jg f first j/\it f j first=first:=by
 intro k
 induction k with
|zero=>intro i r h;cases h
|succ k ih=>
  intro i r h;unfold j6 at h;split at h
  .rw[<-Ij,<-pG f]at h;obtain⟨j,h1,h2⟩:=ih h;exact⟨j,by omega,h2⟩
  .split at h
   .rename_i e;cases h;exact⟨i,r_ _,rfl,e⟩
   .cases h
theorem Kd{f:Nat->Nat}{n first:Nat}{r:List Nat}(h:mr f n first=some r):∃j,0<j/\r=jg f first j/\it f j first=first:=by
 have h':j6 f n first (n+1) (jg f first 1) (it f 1 first)=some r:=h
 obtain⟨j,h1,h2⟩:=Ul h';exact⟨j,by omega,h2⟩
theorem Uv{f:Nat->Nat}{n z p:Nat}(hp:p<=n)(he:it f p z=z)(hg:∀i,0<i->i<p->z<it f i z):∀{k i:Nat},0<i->i<=p->p<k+i->j6 f n z k (jg f z i) (it f i z)=some (jg f z p):=by
 intro k
 induction k with
|zero=>intro i h1 h2 h3;omega
|succ k ih=>
  intro i h1 h2 h3;unfold j6;by_cases hi:i=p
  .subst hi;rw[if_neg (by rw[he];omega),if_pos he]
  .rw[if_pos ⟨hg i h1 (by omega),by rw[HA];omega⟩,<-Ij,<-pG f];exact ih (by omega) (by omega) (by omega)
theorem UJ{f:Nat->Nat}{n z p:Nat}(h0:0<p)(hp:p<=n)(he:it f p z=z)(hg:∀i,0<i->i<p->z<it f i z):mr f n z=some (jg f z p):=by show j6 f n z (n+1) (jg f z 1) (it f 1 z)=_;exact Uv hp he hg (by omega) h0 (by omega)
def i6(W:Nat->List Nat)(O:Nat->Option Nat)(s:S):List (List Nat):=s.line.filterMap fun h=>mr (gA W O s) s.line.length h
theorem Hr{C:List Nat}(hC:∀h,h∈C->∃r∈i6 W O s,h∈r)(U:∀r∈i6 W O s,∀h∈r,h∈C):Cyc W O s C:=by
 have one:∀r∈i6 W O s,∃x j,x∈s.line/\0<j/\r=jg (gA W O s) x j/\it (gA W O s) j x=x:=fun r hr=>by obtain⟨x,h1,h2⟩:=QaK.mp hr;obtain⟨j,h3,h4,h5⟩:=Kd h2;exact⟨x,j,h1,h3,h4,h5⟩
 have hm:∀x∈s.line,∀i,it (gA W O s) i x∈s.line:=by
  intro x hx i
  induction i with
 |zero=>exact hx
 |succ i ih=>rw[pG];exact AW (Qbg hx)
 refine⟨fun h hh=>?_,fun h hh=>?_,fun h hh=>?_⟩
 .obtain⟨r,hr,h1⟩:=hC h hh;obtain⟨x,j,hx,hj,rfl,he⟩:=one r hr;obtain⟨i,_,rfl⟩:=A_.mp h1;exact hm x hx i
 .obtain⟨r,hr,h1⟩:=hC h hh;obtain⟨x,j,hx,hj,rfl,he⟩:=one r hr;obtain⟨i,hi,rfl⟩:=A_.mp h1;have hi:=z_.mp hi;refine U _ hr _ ?_;rw[<-pG (gA W O s)];by_cases q:i+1=j
  .rw[q,he];exact A_.mpr ⟨0,z_.mpr hj,rfl⟩
  .exact A_.mpr ⟨i+1,z_.mpr (by omega),rfl⟩
 .obtain⟨r,hr,h1⟩:=hC h hh;obtain⟨x,j,hx,hj,rfl,he⟩:=one r hr;obtain⟨i,hi,rfl⟩:=A_.mp h1;exact⟨j-1,by rw[show j-1+1=j by omega,GM,he]⟩
theorem Uc(hne:s.line≠[]):i6 W O s≠[]:=by obtain⟨z,p,h1,h2,h3,h4,h5⟩:=Tq (f:=gA W O s) (l:=s.line) (fun h hh=>AW hne) hne;exact Qbg (QaK.mpr ⟨z,h1,UJ h2 h3 h4 h5⟩)
def gone(W:Nat->List Nat)(O:Nat->Option Nat)(s:S):List Nat:=(i6 W O s).flatten
theorem IL:Cyc W O s (gone W O s):=Hr (fun h hh=>QbH.mp hh) (fun r hr h hh=>QbH.mpr ⟨r,hr,hh⟩)
theorem Hq{f:Nat->Nat}{n x:Nat}{r:List Nat}(h:mr f n x=some r):r≠[]:=by obtain⟨j,h1,rfl,_⟩:=Kd h;intro z;have:=HA f x j;rw[z]at this;simp at this;omega
theorem Hb(hne:s.line≠[]):gone W O s≠[]:=by have h:=Uc (W:=W) (O:=O) hne;cases q:i6 W O s with
|nil=>exact absurd q h
|cons r t=>
  have hr:r∈i6 W O s:=by rw[q];exact j_
  obtain⟨x,_,h2⟩:=QaK.mp hr;unfold gone;rw[q,QaT];intro z;exact Hq h2 (List.append_eq_nil_iff.mp z).1
theorem Su(hne:s.line≠[]):(minus W s (gone W O s)).line.length<s.line.length:=by have h:=Hb (W:=W) (O:=O) hne;obtain⟨x,hx⟩:=Qbm _ h;have U:=(IL (W:=W) (O:=O) (s:=s)).sub x hx;have:=xO (fun h=>decide (h∉gone W O s)) s.line;have h3:0<(s.line.filter fun h=>! decide (h∉gone W O s)).length:=Qa7 (D_.mpr ⟨U,by simpa using hx⟩);show(s.line.filter _).length<_;omega
def tx(W:Nat->List Nat)(O:Nat->Option Nat):Nat->S->Nat->Nat
|0,_,_=>0
|n+1,s,h=>if h∈gone W O s then e8 W s h else tx W O n (minus W s (gone W O s)) h
theorem TQ{b:Nat->Nat}(t:TTC W O a s):(∀h∈s.line,b h=a h)->TTC W O b s:=by induction t with
|nil h0=>exact fun _=>.nil h0
|@step s C c ha t ih=>exact fun e=>.step C c (fun h hh=>by rw[e h (c.sub h hh)];exact ha h hh) (ih fun h hh=>e h (D_.mp hh).1)
theorem Mg:∀(n:Nat)(s:S),s.line.length<n->TTC W O (tx W O n s) s:=by
 intro n
 induction n with
|zero=>intro s h;omega
|succ n ih=>
  intro s h;by_cases hl:s.line=[]
  .exact .nil hl
  .have hlt:=Su (W:=W) (O:=O) hl;refine .step (gone W O s) IL (fun h hh=>?_) (TQ (ih _ (by omega)) fun h hh=>?_)
   .show(if h∈gone W O s then _ else _)=_;rw[if_pos hh]
   .have:=(D_.mp hh).2;simp only[decide_eq_true_eq]at this;show(if h∈gone W O s then _ else _)=_;rw[if_neg this]
end
end Rg
end
section
namespace Rg
end Rg
end
section
namespace Rg
section
variable(W:Nat->List Nat)(d:Nat->Nat)
def oW:List Nat->List Nat->Prop
|[],_=>True
|h::l,T=>best (W h) T=d h/\oW l (T.erase (d h))
def jw:List Nat->List Nat->Nat->Nat
|[],_=>fun _=>0
|h::l,T=>fun x=>if x=h then best (W h) T else jw l (T.erase (best (W h) T)) x
variable{W d}
theorem JA{d':Nat->Nat}:∀{o T:List Nat},(∀x∈o,d x=d' x)->oW W d o T->oW W d' o T
|[],_,_,_=>trivial
|h::l,T,e,s=>by have e1:=e h j_;exact⟨by rw[<-e1];exact s.1,by rw[<-e1];exact JA (fun x hx=>e x (k_ _ hx)) s.2⟩
theorem Ai:∀(o T:List Nat),o.Nodup->oW W (jw W o T) o T
|[],_,_=>trivial
|h::l,T,hn=>by
  have U:=Qa5.mp hn;have e:jw W (h::l) T h=best (W h) T:=by simp[jw]
  refine⟨e.symm,?_⟩;rw[e];refine JA (fun x hx=>?_) (Ai l _ U.2);have:x≠h:=by rintro rfl;exact U.1 hx
  simp[jw,this]
end
end Rg
end
section
namespace Fq
theorem IK(a:Int)(b:Nat):Qa4 a b=Qa4 b (a%(b:Int)):=by
 refine Qe9 (Int.dvd_gcd (Qbr _ _) ?_) (Int.dvd_gcd ?_ (QcP _ _))
 .rw[Int.emod_def];exact Int.dvd_sub (QcP _ _) (QfX (Qbr a b) (QeY _ _))
 .have h:=Int.mul_ediv_add_emod a b;rw[<-h];exact Int.dvd_add (QfX (QcP (b:Int) _) (QeY _ _)) (by rw[h];exact Qbr _ _)
theorem Bx(t:Int){b:Nat}(h:0<b):0<Qa4 t b:=QeC fun z=>by have:=Int.gcd_eq_zero_iff.mp z;omega
def low(t:Int)(b:Nat):Int×Nat:=(t/(Qa4 t b:Int),b/Qa4 t b)
def Fg(a b:Int×Nat):Int×Nat:=low (a.1*b.2+b.1*a.2) (a.2*b.2)
def Same(a b:Int×Nat):Prop:=a.1*(b.2:Int)=b.1*(a.2:Int)
theorem GR(t:Int){b:Nat}(h:0<b):Qa4 (low t b).1 ((low t b).2:Nat)=1:=by have:=Int.gcd_ediv_gcd_ediv_gcd (Bx t h);unfold low;rw[QdF];exact this
theorem vO(t:Int){b:Nat}(h:0<b):0<(low t b).2:=by have h1:Qa4 t b∣b:=QdG.mp (Qbr t b);exact Nat.div_pos (QfY h h1) (Bx t h)
theorem M7(t:Int)(b:Nat):(low t b).2<=b:=Qd2 _ _
theorem Ou(t:Int)(b:Nat):(low t b).1.natAbs<=t.natAbs:=Int.natAbs_ediv_le_natAbs _ _
theorem BF(t:Int)(b:Nat):Same (low t b) (t,b):=by
 unfold Same low;have h1:(Qa4 t b:Int)∣t:=QcP t b;have h2:(Qa4 t b:Int)∣(b:Int):=Qbr t b;obtain⟨x,hx⟩:=h1;obtain⟨y,hy⟩:=h2;generalize hg:(Qa4 t b:Int)=g at hx hy;show t/g*(b:Int)=t*((b/Qa4 t b:Nat):Int);rw[QdF,hg];by_cases z:g=0
 .subst z;rw[Int.zero_mul]at hx hy;rw[hx,hy];simp
 .rw[hx,hy,QdA _ z,QdA _ z];rw[<-Qac,Qay x g]
structure Bd(k:Nat)(a:Int×Nat):Prop where
 pos:0<a.2
 bot:a.2<2^k
 top:a.1.natAbs<2^k
theorem Bd.low{k:Nat}{t:Int}{b:Nat}(h:0<b)(h1:b<2^k)(h2:t.natAbs<2^k):Bd k (low t b):=⟨vO t h,Qdj (M7 t b) h1,Qdj (Ou t b) h2⟩
theorem Tw{a b k l:Nat}(h1:a<2^k)(h2:b<2^l):a*b<2^(k+l):=by rw[Nat.pow_add];exact Nat.mul_lt_mul'' h1 h2
theorem pR{k l:Nat}{a b:Int×Nat}(ha:Bd k a)(hb:Bd l b):0<a.2*b.2/\a.2*b.2<2^(k+l):=⟨Qb1 ha.pos hb.pos,Tw ha.bot hb.bot⟩
def Aj(a b:Int×Nat):Bool:=decide (a.1*(b.2:Int)<b.1*(a.2:Int))
end Fq
end
section
namespace Rg
theorem FC{α:Type}(f:α->Nat)(os:List α):∀P:List Nat,P.Nodup->(P.map fun t=>os.countP fun o=>decide (f o=t)).sum=os.countP fun o=>decide (f o∈P)
|[],_=>by simp
|t::P,hn=>by
  have U:=Qa5.mp hn;rw[o_,Qas,FC f os P U.2];clear hn
  induction os with
 |nil=>rfl
 |cons o os ih=>
   rw[Qb8,Qb8,Qb8,<-ih];by_cases h1:f o=t
   .have h2:f o∉P:=by rw[h1];exact U.1
    simp[h1,U.1];omega
   .by_cases h2:f o∈P
    .simp[h1,h2];omega
    .simp[h1,h2]
end Rg
namespace Fq
def W(N:Nat)(a:Int×Nat)(S:Nat):Prop:=0<a.2/\a.1*(N:Int)=(S:Int)*(a.2:Int)
end Fq
end
section
namespace Fq
theorem pW{t u:Int}{b d:Nat}(hb:0<b)(hd:0<d)(h:t*(d:Int)=u*(b:Int)):low t b=low u d:=by
 have s1:(low t b).1*(b:Int)=t*((low t b).2:Int):=BF t b;have s2:(low u d).1*(d:Int)=u*((low u d).2:Int):=BF u d;have c1:=GR t hb;have c2:=GR u hd;have p1:=vO t hb;have p2:=vO u hd;generalize low t b=p at *;generalize low u d=q at *;have hx:p.1*(q.2:Int)=q.1*(p.2:Int):=by
  have hne:((b*d:Nat):Int)≠0:=by have:=Qb1 hb hd;omega
  refine Qb2 hne ?_;rw[QaC];have e1:p.1*(q.2:Int)*((b:Int)*(d:Int))=(p.1*(b:Int))*((d:Int)*(q.2:Int)):=by simp only[Qac,Qay,Qat]
  have e2:q.1*(p.2:Int)*((b:Int)*(d:Int))=(q.1*(d:Int))*((b:Int)*(p.2:Int)):=by simp only[Qac,Qay,Qat]
  rw[e1,e2,s1,s2];have e3:t*(p.2:Int)*((d:Int)*(q.2:Int))=(t*(d:Int))*((p.2:Int)*(q.2:Int)):=by simp only[Qac,Qay,Qat]
  have e4:u*(q.2:Int)*((b:Int)*(p.2:Int))=(u*(b:Int))*((p.2:Int)*(q.2:Int)):=by simp only[Qac,Qay,Qat]
  rw[e3,e4,h]
 have U:p.1.natAbs*q.2=q.1.natAbs*p.2:=by have:=congrArg Int.natAbs hx;rw[QfJ,QfJ,O_,O_]at this;exact this
 have k1:Nat.Coprime p.2 p.1.natAbs:=by have:Nat.gcd p.1.natAbs p.2=1:=c1;rw[Nat.gcd_comm]at this;exact this
 have k2:Nat.Coprime q.2 q.1.natAbs:=by have:Nat.gcd q.1.natAbs q.2=1:=c2;rw[Nat.gcd_comm]at this;exact this
 have d1:p.2∣q.2:=k1.dvd_of_dvd_mul_left (by rw[U];exact QcQ _ _);have d2:q.2∣p.2:=k2.dvd_of_dvd_mul_left (by rw[<-U];exact QcQ _ _);have e:p.2=q.2:=Qe9 d1 d2;have e':p.1=q.1:=by rw[e]at hx;exact Qb2 (by omega) hx
 exact Qf9 e' e
def DD:Nat:=420^7
theorem di:0<DD:=by decide
theorem E9:DD<2^61:=by decide
def Qd(z:Int):Int×Nat:=low z DD
theorem kT(z:Int):(Qd z).1*(DD:Int)=z*((Qd z).2:Int):=BF z DD
theorem lw(z:Int):0<(Qd z).2:=vO z di
theorem Pd(a b:Int):Fg (Qd a) (Qd b)=Qd (a+b):=by
 have h1:=kT a;have h2:=kT b;refine pW (Qb1 (lw a) (lw b)) di ?_;rw[QaC,Int.add_mul,Int.add_mul];have e1:(Qd a).1*((Qd b).2:Int)*(DD:Int)=((Qd a).1*(DD:Int))*((Qd b).2:Int):=by simp only[Qac,Qay,Qat]
 have e2:(Qd b).1*((Qd a).2:Int)*(DD:Int)=((Qd b).1*(DD:Int))*((Qd a).2:Int):=by simp only[Qac,Qay,Qat]
 rw[e1,e2,h1,h2];simp only[Qac,Qay,Qat]
def Gh(a b:Int×Nat):Int×Nat:=low (a.1*b.2-b.1*a.2) (a.2*b.2)
theorem Re(a b:Int):Gh (Qd a) (Qd b)=Qd (a-b):=by
 have h1:=kT a;have h2:=kT b;refine pW (Qb1 (lw a) (lw b)) di ?_;rw[QaC,Int.sub_mul,Int.sub_mul];have e1:(Qd a).1*((Qd b).2:Int)*(DD:Int)=((Qd a).1*(DD:Int))*((Qd b).2:Int):=by simp only[Qac,Qay,Qat]
 have e2:(Qd b).1*((Qd a).2:Int)*(DD:Int)=((Qd b).1*(DD:Int))*((Qd a).2:Int):=by simp only[Qac,Qay,Qat]
 rw[e1,e2,h1,h2];simp only[Qac,Qay,Qat]
def AZ(a b:Int×Nat):Int×Nat:=low (a.1*b.1) (a.2*b.2)
theorem Rh(c:Int)(a:Int):AZ (c,1) (Qd a)=Qd (c*a):=by have h1:=kT a;refine pW (Qb1 (show 0<((c:Int),1).2 from Nat.one_pos) (lw a)) di ?_;show c*(Qd a).1*(DD:Int)=c*a*((1*(Qd a).2:Nat):Int);rw[Nat.one_mul,Qac,h1,Qac]
theorem Mo{c:Nat}{a:Nat}(hc:0<c)(h:c∣a):AZ (Qd a) (1,c)=Qd ((a/c:Nat):Int):=by have h1:=kT (a:Int);refine pW (Qb1 (lw _) hc) di ?_;show(Qd (a:Int)).1*1*(DD:Int)=((a/c:Nat):Int)*(((Qd (a:Int)).2*c:Nat):Int);obtain⟨k,rfl⟩:=h;rw[QdH k hc,Int.mul_one,h1,QaC,QaC];simp only[Qac,Qay,Qat]
theorem Pc(a b:Int):Aj (Qd a) (Qd b)=decide (a<b):=by
 have h1:=kT a;have h2:=kT b;have p1:=lw a;have p2:=lw b;have hp:(0:Int)<((Qd a).2:Int)*((Qd b).2:Int):=by rw[<-QaC];have:=Qb1 p1 p2;omega
 have hD:(0:Int)<(DD:Int):=by have:=di;omega
 unfold Aj;rw[T_,decide_eq_true_iff,decide_eq_true_iff];have e1:(Qd a).1*((Qd b).2:Int)*(DD:Int)=a*(((Qd a).2:Int)*((Qd b).2:Int)):=by rw[Qac,Qay ((Qd b).2:Int),<-Qac,h1,Qac]
 have e2:(Qd b).1*((Qd a).2:Int)*(DD:Int)=b*(((Qd a).2:Int)*((Qd b).2:Int)):=by rw[Qac,Qay ((Qd a).2:Int),<-Qac,h2,Qac,Qay ((Qd b).2:Int)]
 constructor
 .intro h;have:=Qc7 h hD;rw[e1,e2]at this;exact Qdn this (Int.le_of_lt hp)
 .intro h;have:=Qc7 h hp;rw[<-e1,<-e2]at this;exact Qdn this (Int.le_of_lt hD)
theorem Mp{a b:Int}(h:Qd a=Qd b):a=b:=by have h1:=kT a;have h2:=kT b;rw[h]at h1;have:=lw b;exact Qb2 (show((Qd b).2:Int)≠0 by omega) (h1.symm.trans h2)
theorem oO(t:Int):low t 1=(t,1):=by
 unfold low;have:Qa4 t (1:Nat)=1:=by show Qa4 t 1=1;simp
 rw[this];simp
theorem low_1(c:Nat):low 1 c=(1,c):=by
 unfold low;have:Qa4 1 (c:Nat)=1:=by simp
 rw[this];simp
theorem mi:Qd 0=(0,1):=by rw[<-oO 0];exact pW di (by decide) (by simp)
theorem ES:Qd (DD:Int)=(1,1):=by rw[<-oO 1];exact pW di (by decide) (by simp)
theorem mI{a:Nat}(h:a<=DD):Bd 61 (Qd (a:Int)):=Bd.low di E9 (by rw[O_];have:=E9;omega)
end Fq
namespace Et
open Rg
def eS:List Nat->Nat
|[]=>0
|x::l=>l.foldl (fun m y=>if y<m then y else m) x
theorem Bv:∀(l:List Nat)(m:Nat),l.foldl (fun m y=>if y<m then y else m) m<=m/\(∀y∈l,l.foldl (fun m y=>if y<m then y else m) m<=y)/\(l.foldl (fun m y=>if y<m then y else m) m=m\/l.foldl (fun m y=>if y<m then y else m) m∈l)
|[],m=>⟨r_ _,fun _ h=>(nomatch h),.inl rfl⟩
|y::l,m=>by
  rw[Qcm];obtain⟨h1,h2,h3⟩:=Bv l (if y<m then y else m);have hm:(if y<m then y else m)<=m/\(if y<m then y else m)<=y:=by split <;> omega
  refine⟨L_ h1 hm.1,fun z hz=>?_,?_⟩
  .rcases t_.mp hz with rfl|hz
   .exact L_ h1 hm.2
   .exact h2 z hz
  .rcases h3 with h3|h3
   .rw[h3];by_cases hy:y<m
    .rw[if_pos hy];exact .inr j_
    .rw[if_neg hy];exact .inl rfl
   .exact .inr (k_ _ h3)
theorem Q8{l:List Nat}{y:Nat}(h:y∈l):eS l<=y:=by cases l with
|nil=>cases h
|cons x l=>
  obtain⟨h1,h2,_⟩:=Bv l x;rcases t_.mp h with rfl|h
  .exact h1
  .exact h2 y h
theorem Sk{l:List Nat}(h:l≠[]):eS l∈l:=by cases l with
|nil=>exact absurd rfl h
|cons x l=>
  obtain⟨_,_,h3⟩:=Bv l x;rcases h3 with h3|h3
  .show l.foldl (fun m y=>if y<m then y else m) x∈_;rw[h3];exact j_
  .exact k_ _ h3
variable(W:Nat->List Nat)(n:Nat)
def tgs(T:List Nat):List Nat:=(e_ n).map fun h=>best (W h) T
def fg(T:List Nat)(a:Nat->Nat):Nat:=eS ((tgs W n T).map fun x=>a x/(tgs W n T).count x)
def dY(T:List Nat)(a:Nat->Nat)(x:Nat):Nat:=a x-(tgs W n T).count x*fg W n T a
def dJ(T:List Nat)(a:Nat->Nat):List Nat:=T.filter fun x=>decide (dY W n T a x≠0)
def f8:Nat->List Nat->(Nat->Nat)->List (List Nat×Nat×List Nat)
|0,_,_=>[]
|k+1,T,a=>if T=[]then[]else(tgs W n T,fg W n T a,T.filter fun x=>decide (x∉dJ W n T a))::f8 k (dJ W n T a) (dY W n T a)
structure Ok(T:List Nat)(a:Nat->Nat):Prop where
 nd:T.Nodup
 lt:∀x∈T,x<n
 pos:∀x∈T,0<a x
 dv:∀x∈T,420^T.length∣a x
variable{W n}
variable{T:List Nat}{a:Nat->Nat}
structure Rw(W:Nat->List Nat)(n:Nat):Prop where
 n1:1<=n
 n7:n<=7
 has:∀h x,h<n->x<n->x∈W h
theorem F6(R:Rw W n)(S:Ok n T a)(hT:T≠[]){h:Nat}(hh:h<n):best (W h) T∈T:=by have hp:=Qcd.mpr hT;exact A5 ⟨T[0],R.has h _ hh (S.lt _ (QaD _)),QaD _⟩
theorem d8:(tgs W n T).length=n:=by unfold tgs;simp
theorem dz(R:Rw W n)(S:Ok n T a)(hT:T≠[]){x:Nat}(h:x∈tgs W n T):x∈T:=by obtain⟨k,hk,rfl⟩:=A_.mp h;exact F6 R S hT (z_.mp hk)
theorem Gs(x:Nat):(tgs W n T).count x<=n:=by have:=QcX (a:=x) (l:=tgs W n T);rw[d8]at this;exact this
theorem Gu{c:Nat}(h1:1<=c)(h7:c<=7):c∣420:=by match c,h1,h7 with
|1,_,_=>decide
|2,_,_=>decide
|3,_,_=>decide
|4,_,_=>decide
|5,_,_=>decide
|6,_,_=>decide
|7,_,_=>decide
theorem g4(R:Rw W n)(S:Ok n T a)(hT:T≠[]){x:Nat}(hx:x∈tgs W n T):(tgs W n T).count x∣a x/\0<(tgs W n T).count x:=by
 have h1:0<(tgs W n T).count x:=QeD.mpr hx;have h2:=Gs (W:=W) (n:=n) (T:=T) x;have hp:=Qcd.mpr hT;have hd:=S.dv x (dz R S hT hx);obtain⟨k,hk⟩:∃k,T.length=k+1:=⟨T.length-1,by omega⟩
 rw[hk,QeZ]at hd;exact⟨QcT (Gu h1 (by have:=R.n7;omega)) (QcT (QcQ _ _) hd),h1⟩
theorem NA(x:Nat)(hx:x∈tgs W n T):fg W n T a<=a x/(tgs W n T).count x:=Q8 (A_.mpr ⟨x,hx,rfl⟩)
theorem gS(x:Nat):(tgs W n T).count x*fg W n T a<=a x:=by
 by_cases hx:x∈tgs W n T
 .have h1:=NA (a:=a) x hx;have h2:=Qem ((tgs W n T).count x) h1;exact L_ h2 (Nat.mul_div_le _ _)
 .rw[QeE.mpr hx];simp
theorem iQ(R:Rw W n):∃x∈tgs W n T,fg W n T a=a x/(tgs W n T).count x:=by
 have hne:(tgs W n T).map (fun x=>a x/(tgs W n T).count x)≠[]:=by intro e;have h1:=congrArg Qb0 e;rw[l_,d8]at h1;have h2:=R.n1;rw[Qbo]at h1;omega
 obtain⟨x,h1,h2⟩:=A_.mp (Sk hne);exact⟨x,h1,h2.symm⟩
theorem Om(R:Rw W n)(S:Ok n T a)(hT:T≠[]):420^(T.length-1)∣fg W n T a:=by
 obtain⟨x,h1,h2⟩:=iQ (T:=T) (a:=a) R;have hp:=Qcd.mpr hT;have hd:=S.dv x (dz R S hT h1);obtain⟨hc,U⟩:=g4 R S hT h1;have Y:=Gu (c:=(tgs W n T).count x) U (by have:=Gs (W:=W) (n:=n) (T:=T) x;have:=R.n7;omega);obtain⟨k,hk⟩:∃k,T.length=k+1:=⟨T.length-1,by omega⟩
 rw[hk,QeZ]at hd;obtain⟨q,hq⟩:=hd;obtain⟨m,hm⟩:=Y;rw[h2,hk,Nat.add_sub_cancel,hq];generalize(tgs W n T).count x=c at *;refine⟨m*q,?_⟩;rw[hm];have:420^k*(c*m)*q=c*(420^k*(m*q)):=by simp only[Nat.mul_assoc,QeS,Nat.mul_left_comm]
 rw[<-hm]at this ⊢;rw[hm]at this ⊢;rw[this,QdH _ U]
theorem gX(R:Rw W n)(S:Ok n T a)(hT:T≠[]):(dJ W n T a).length<T.length:=by
 obtain⟨x,h1,h2⟩:=iQ (T:=T) (a:=a) R;obtain⟨hc,U⟩:=g4 R S hT h1;have hx:=dz R S hT h1;have h0:dY W n T a x=0:=by unfold dY;rw[h2,Nat.mul_div_cancel' hc,Nat.sub_self]
 unfold dJ;refine Nat.lt_of_le_of_ne (QcK _ _) fun e=>?_;have:=List.length_filter_eq_length_iff.mp e x hx;simp[h0]at this
theorem Ok.next(R:Rw W n)(S:Ok n T a)(hT:T≠[]):Ok n (dJ W n T a) (dY W n T a) where
 nd:=S.nd.sublist List.filter_sublist
 lt:=fun x hx=>S.lt x (D_.mp hx).1
 pos:=fun x hx=>QeC (by simpa using(D_.mp hx).2)
 dv:=fun x hx=>by have U:=(D_.mp hx).1;have hlt:=gX R S hT;have h1:420^(T.length-1)∣a x:=QcT (Qd3 420 (by omega)) (S.dv x U);have h2:420^(T.length-1)∣(tgs W n T).count x*fg W n T a:=QcT (Om R S hT) (QcQ _ _);exact QcT (Qd3 420 (by omega)) (Nat.dvd_sub h1 h2)
def shr(ms:List (List Nat×Nat×List Nat))(h x:Nat):Nat:=(ms.map fun p=>if p.1.getD h 0=x then p.2.1 else 0).sum
def lT(ms:List (List Nat×Nat×List Nat)):Nat:=(ms.map fun p=>p.2.1).sum
theorem fQ(p:List Nat×Nat×List Nat)(ms)(h x:Nat):shr (p::ms) h x=(if p.1.getD h 0=x then p.2.1 else 0)+shr ms h x:=by unfold shr;rw[o_,Qas]
theorem dI(p:List Nat×Nat×List Nat)(ms):lT (p::ms)=p.2.1+lT ms:=by unfold lT;rw[o_,Qas]
theorem vH{α:Type}(f g:α->Nat):∀l:List α,(l.map fun x=>f x+g x).sum=(l.map f).sum+(l.map g).sum
|[]=>rfl
|x::l=>by rw[o_,o_,o_,Qas,Qas,Qas,vH f g l];omega
theorem HN(s:Nat)(p:Nat->Nat)(x:Nat):∀l:List Nat,(l.map fun h=>if p h=x then s else 0).sum=(l.map p).count x*s
|[]=>by simp
|h::l=>by
  rw[o_,Qas,HN s p x l,o_,List.count_cons];by_cases e:p h=x
  .rw[if_pos e,if_pos (by simpa using e),Qed];omega
  .rw[if_neg e,if_neg (by simpa using e),Nat.add_zero,QbL]
theorem HQ(s y:Nat):∀l:List Nat,l.Nodup->(l.map fun x=>if y=x then s else 0).sum=if y∈l then s else 0
|[],_=>by simp
|x::l,hn=>by
  have U:=Qa5.mp hn;rw[o_,Qas,HQ s y l U.2];by_cases e:y=x
  .subst e;rw[if_pos rfl,if_neg U.1,if_pos j_];rfl
  .rw[if_neg e];by_cases hy:y∈l
   .rw[if_pos hy,if_pos (k_ _ hy)];omega
   .rw[if_neg hy,if_neg fun z=>(t_.mp z).elim e hy]
theorem Fm{h:Nat}(hh:h<n):(tgs W n T).getD h 0=best (W h) T:=by unfold tgs;rw[y_,u_,Qax hh];rfl
theorem Pu:(e_ n).map (fun h=>(tgs W n T).getD h 0)=tgs W n T:=by unfold tgs;refine Qam fun h hh=>?_;exact Fm (W:=W) (T:=T) (z_.mp hh)
theorem Pr(ts:List Nat):∀T:List Nat,T.Nodup->(∀x∈ts,x∈T)->(T.map fun x=>ts.count x).sum=ts.length:=by
 intro T hn hs;have:=Rg.FC id ts T hn;have e:(T.map fun x=>ts.count x)=T.map fun t=>ts.countP fun o=>decide (id o=t):=by refine Qam fun x _=>?_;rw[List.count_eq_countP];refine List.countP_congr fun y _=>?_;simp
 rw[e,this];exact List.countP_eq_length.mpr fun y hy=>by simpa using hs y hy
theorem HP(s:Nat)(f:Nat->Nat):∀l:List Nat,(l.map fun x=>f x*s).sum=(l.map f).sum*s
|[]=>by simp
|x::l=>by rw[o_,Qas,HP s f l,o_,Qas,Qed]
theorem CO(f:Nat->Nat):∀l:List Nat,((l.filter fun x=>decide (f x≠0)).map f).sum=(l.map f).sum
|[]=>rfl
|x::l=>by
  rw[Qau];by_cases h:f x=0
  .rw[if_neg (by simpa using h),CO f l,o_,Qas,h];omega
  .rw[if_pos (by simpa using h),o_,Qas,CO f l,o_,Qas]
theorem Ju{α:Type}(c:Nat):∀l:List α,(l.map fun _=>c).sum=l.length*c
|[]=>by simp
|_::l=>by rw[o_,Qas,Ju c l,K_,Qed];omega
theorem rE{α:Type}:∀l:List α,(l.map fun _=>0).sum=0
|[]=>rfl
|_::l=>by rw[o_,Qas,rE l]
theorem Hj(R:Rw W n):∀(k:Nat)(T:List Nat)(a:Nat->Nat),Ok n T a->T.length<=k ->(∀x,((e_ n).map fun h=>shr (f8 W n k T a) h x).sum=if x∈T then a x else 0)/\n*lT (f8 W n k T a)=(T.map a).sum /\(∀h,h<n->((e_ n).map fun x=>shr (f8 W n k T a) h x).sum=lT (f8 W n k T a))
|0,T,a,S,hk=>by
  have:T=[]:=List.length_eq_zero_iff.mp (by omega);subst this;refine⟨fun x=>?_,?_,fun h hh=>?_⟩
  .show((e_ n).map fun h=>0).sum=_;rw[rE];simp
  .show n*0=_;simp
  .show((e_ n).map fun x=>0).sum=0;exact rE _
|k+1,T,a,S,hk=>by
  by_cases hT:T=[]
  .subst hT;refine⟨fun x=>?_,?_,fun h hh=>?_⟩
   .show((e_ n).map fun h=>0).sum=_;rw[rE];simp
   .show n*0=_;simp
   .show((e_ n).map fun x=>0).sum=0;exact rE _
  .have hlt:=gX R S hT;obtain⟨i1,i2,i3⟩:=Hj R k (dJ W n T a) (dY W n T a) (S.next R hT) (by omega);have e:f8 W n (k+1) T a=(tgs W n T,fg W n T a,T.filter fun x=>decide (x∉dJ W n T a))::f8 W n k (dJ W n T a) (dY W n T a):=by show(if T=[]then[]else _)=_;rw[if_neg hT]
   rw[e];refine⟨fun x=>?_,?_,fun h hh=>?_⟩
   .have e1:(e_ n).map (fun h=>shr ((tgs W n T,fg W n T a,T.filter fun x=>decide (x∉dJ W n T a))::f8 W n k (dJ W n T a) (dY W n T a)) h x)=(e_ n).map fun h=>(if (tgs W n T).getD h 0=x then fg W n T a else 0)+shr (f8 W n k (dJ W n T a) (dY W n T a)) h x:=Qam fun h _=>fQ _ _ _ _;rw[e1,vH,i1 x,HN,Pu];have U:=gS (W:=W) (n:=n) (T:=T) (a:=a) x;by_cases hx:x∈T
    .rw[if_pos hx];by_cases hl:x∈dJ W n T a
     .rw[if_pos hl];unfold dY;omega
     .rw[if_neg hl];have:dY W n T a x=0:=Qbl fun z=>hl (D_.mpr ⟨hx,by simpa using z⟩);unfold dY at this;omega
    .rw[if_neg hx,if_neg (show x∉dJ W n T a from fun z=>hx (D_.mp z).1)];have:(tgs W n T).count x=0:=QeE.mpr fun z=>hx (dz R S hT z);rw[this];simp
   .rw[dI,Nat.mul_add,i2];have h1:((dJ W n T a).map (dY W n T a)).sum=(T.map (dY W n T a)).sum:=CO _ _;have h2:(T.map a).sum=(T.map fun x=>dY W n T a x+(tgs W n T).count x*fg W n T a).sum:=by congr 1;refine Qam fun x _=>?_;have U:=gS (W:=W) (n:=n) (T:=T) (a:=a) x;unfold dY;omega
    rw[h1,h2,vH,HP,Pr _ T S.nd (fun x hx=>dz R S hT hx),d8];show n*fg W n T a+_=_;omega
   .have e1:(e_ n).map (fun x=>shr ((tgs W n T,fg W n T a,T.filter fun x=>decide (x∉dJ W n T a))::f8 W n k (dJ W n T a) (dY W n T a)) h x)=(e_ n).map fun x=>(if best (W h) T=x then fg W n T a else 0)+shr (f8 W n k (dJ W n T a) (dY W n T a)) h x:=Qam fun x _=>by rw[fQ];show(if (tgs W n T).getD h 0=x then _ else _)+_=_;rw[Fm hh]
    rw[e1,vH,i3 h hh,HQ _ _ _ Qav,if_pos (z_.mpr (S.lt _ (F6 R S hT hh))),dI]
theorem Ok.init(R:Rw W n):Ok n (e_ n) fun _=>Fq.DD:=⟨Qav,fun x hx=>z_.mp hx,fun _ _=>Fq.di,fun _ _=>by rw[QaV];exact Qd3 420 R.n7⟩
theorem l9(R:Rw W n){k:Nat}(hk:n<=k):lT (f8 W n k (e_ n) fun _=>Fq.DD)=Fq.DD:=by
 have h:=(Hj R k (e_ n) (fun _=>Fq.DD) (Ok.init R) (by simpa using hk)).2.1;have e:((e_ n).map fun _=>Fq.DD).sum=n*Fq.DD:=by rw[Ju,QaV]
 rw[e]at h;exact Nat.eq_of_mul_eq_mul_left R.n1 h
end Et
end
namespace Law
open PySem PySem.Spec PyProof.Rows L2 DL
abbrev gv(i:Nat):DL.FE:=fun r=>DL.fZ r i
abbrev ci(i:Int):DL.FE:=fun _=>.ok (.int i)
abbrev q0:List DL.Md:=[.bw,.bw]
abbrev bO:List DL.Md:=[.sh,.sh]
abbrev cO:List DL.Md:=[.sh,.sh,.sh,.sh,.sh,.sh,.sh,.ow,.sh,.sh,.sh,.sh,.sh]
abbrev ee:List DL.Md:=[.sh,.sh,.sh]
abbrev eQ:List DL.Md:=[.sh,.bw,.bw,.ow,.sh,.sh]
abbrev eO:List DL.Md:=[.bw,.sh]
abbrev eN:List DL.Md:=[.bw,.sh,.sh]
abbrev fu:List DL.Md:=[.bw,.bw,.sh,.sh]
abbrev fU:List DL.Md:=[.bw,.bw,.ow,.sh,.sh]
abbrev fT:List DL.Md:=[.sh,.bw,.bw,.sh,.sh]
abbrev fR:List DL.Md:=[.sh,.sh,.bw,.sh]
abbrev gV:List DL.Md:=[.bw,.bw,.bw]
abbrev gU:List DL.Md:=[.bw,.sh,.sh,.sh,.sh,.sh]
abbrev ij:List DL.Md:=[.sh,.bw,.bw]
abbrev ii:List DL.Md:=[.bw,.bw,.bw,.sh]
abbrev ig:List DL.Md:=[.sh,.sh,.bw,.bw,.ow,.sh]
abbrev iT:List DL.Md:=[.sh,.bw,.bw,.ow,.sh]
abbrev iS:List DL.Md:=[.bw,.bw,.bw,.sh,.sh,.ow,.sh,.sh,.sh]
abbrev iR:List DL.Md:=[.sh,.sh,.sh,.sh,.sh,.sh,.sh,.sh,.sh,.sh,.sh,.sh,.sh]
abbrev jC:List DL.Md:=[.bw,.bw,.bw,.bw]
abbrev jB:List DL.Md:=[.bw,.sh,.ow,.ow,.sh]
abbrev jA:List DL.Md:=[.sh,.sh,.ow,.ow,.sh]
abbrev kz:List DL.Md:=[.sh,.bw,.ow,.sh]
abbrev ky:List DL.Md:=[.bw,.bw,.bw,.bw,.ow,.ow,.sh,.sh]
abbrev kx:List DL.Md:=[.bw,.bw,.bw,.sh,.sh,.sh,.sh,.sh,.sh]
abbrev ku:List DL.Md:=[.bw,.bw,.sh,.ow,.sh]
abbrev kt:List DL.Md:=[.bw,.bw,.sh]
abbrev kr:List DL.Md:=[.sh,.ow,.sh]
abbrev ko:List DL.Md:=[.bw,.ow,.sh,.sh,.sh,.sh,.sh]
abbrev kn:List DL.Md:=[.bw,.ow,.sh,.ow,.sh,.sh,.sh]
abbrev km:List DL.Md:=[.bw,.bw,.bw,.ow,.sh,.sh,.sh,.sh]
abbrev kl:List DL.Md:=[.sh,.sh,.sh,.sh]
abbrev l7:List DL.Md:=[.sh,.bw,.bw,.sh,.sh,.sh]
abbrev l6:List DL.Md:=[.bw,.sh,.sh,.sh,.sh]
abbrev l5:List DL.Md:=[.sh,.bw,.sh,.ow,.sh]
abbrev l0:List DL.Md:=[.bw,.ow,.sh,.sh,.sh,.sh]
abbrev oM:List DL.Md:=[.bw,.bw,.sh,.sh,.sh]
abbrev oK:List DL.Md:=[.bw,.ow,.sh,.sh,.sh]
abbrev oJ:List DL.Md:=[.bw,.sh,.sh,.ow,.sh,.sh]
abbrev sY:List DL.Md:=[.bw,.bw,.bw,.bw,.ow,.ow,.sh,.ow]
abbrev sX:List DL.Md:=[.bw,.bw,.bw,.ow,.sh,.ow,.sh,.sh,.sh]
abbrev sW:List DL.Md:=[.bw,.bw,.bw,.ow,.ow,.ow,.sh,.sh,.sh]
abbrev sV:List DL.Md:=[.sh,.bw,.sh,.sh,.sh,.sh,.sh,.sh,.sh]
theorem mv{α:Type}(us:List α)(h:us.length=1):∃a0,us=[a0]:=by match us,h with
|[_],_=>exact⟨_,rfl⟩
theorem gl{α:Type}(us:List α)(h:us.length=2):∃a0 a1,us=[a0,a1]:=by match us,h with
|[_,_],_=>exact⟨_,_,rfl⟩
theorem qu{α:Type}(us:List α)(h:us.length=3):∃a0 a1 a2,us=[a0,a1,a2]:=by match us,h with
|[_,_,_],_=>exact⟨_,_,_,rfl⟩
def top(i:Nat):Stmt:=Qee.main.body.getD i (.Pass ⟨0,0,0,0⟩)
structure Txt(K:W.Frag)(mg:Str->Option a_):Prop where
 b_len:mg "len" = none
 b_range:mg "range" = none
 b_tuple:mg "tuple" = none
 b_isinstance:mg "isinstance" = none
 b_list:mg "list" = none
 b_bool:mg "bool" = none
 b_int:mg "int" = none
 b_enumerate:mg "enumerate" = none
 b_sorted:mg "sorted" = none
 b_abs:mg "abs" = none
 k_MOST_HANDS_IN_LOTS:∃t,mg "MOST_HANDS_IN_LOTS" = some (.int 5 t)
 k_NOUGHT:∃a,mg "NOUGHT" = some (.ref a)/\KC K a (.tup [.int 0,.int 1])
 k_ONE:∃a,mg "ONE" = some (.ref a)/\KC K a (.tup [.int 1,.int 1])
def xA:Str->Bool:=fun nm=>(["NoOrder"]:List Str).contains nm
def nh:Str->Bool:=fun nm=>(["NotSquare"]:List Str).contains nm
def jZ:Str->Bool:=fun nm=>(["TooMany"]:List Str).contains nm
def jU:Str->Bool:=fun nm=>(["ByRings"]:List Str).contains nm
def fK:Str->Bool:=fun nm=>(["ByRings","ByOrder"]:List Str).contains nm
def nH:Str->Option Bool:=fun nm=>if (["ByRings","ByOrder"]:List Str).contains nm=true then some true else if ([]:List Str).contains nm=true then some false else none
abbrev m9:Stmt:=L8 (top 7)
theorem Uz:FnScope ["self","at"] ["self","at"] (aF m9):=bZ
theorem NU:∀(kV doc pm:a_)(an:Option Addr)(cdv ct:a_)(us:List a_),us.length=([("self" : Str),"at"]).length->QbN (W.fnOf "__init__" "NoOrder.__init__" (aU m9) (aN m9) (aF m9) .none kV doc pm an cdv ct) ⟨us,[]⟩=pure (([("self" : Str),"at"]).zip us):=fun _ _ _ _ _ _ us hl=>by obtain⟨u0,u1,rfl⟩:=gl us hl;kernel_rfl
theorem O5{P:H_}{w:Z_}{K:W.Frag}{mg:Str->Option a_}{C T fI:Addr}{bm:List a_}{fd:QaE}(F:Fun K "__init__" "NoOrder.__init__" m9 fI fd)(xi:XI K C bm "at")(hm:mg "TradeError" = some (.ref T))(hT:XT K T)(base:Heap):FnOk P w K mg base dm 1 fI fd ["self","at"] (Ab C "at"):=O6 (k:=0) F Uz xi fun cdv A outer s H E=>BJ (vA (Qf (by rfl) hm hT (jt (jR (i:=0) rfl (dw rfl)) (jt (VQ (c:=cI) (MZ (MX (j:=1) rfl (dw rfl) MY (fun _ h=>h))) (by decide+kernel)) lB)))) (PN (PM (jR (i:=0) rfl (dw rfl)) (jR (i:=1) rfl (dw rfl))))
abbrev Cz:Stmt:=top 62
abbrev JC:List Str:=["_law_script","_law_k","_law_cell_here","_law_stirred"]
abbrev xM:List Str:=["_law_script","_law_k"]
theorem yH:FnScope JC xM (aF Cz):=bZ
def xF:FS:=(aG (aR fu 2 (ci 0)) (aG (dj fu (bW (f2 (gv 1) (fC (aI (gv 0) aH) lenD) jh)) (aG (aR fu 2 (f2 (f2 (gv 0) (gv 1) bY) (f2 (ci 10) (ci 60) kA) cQ)) aV) aV) (aG (dj fu (eV (bW (f2 (fC (aI (gv 0) aH) lenD) (ci 0) jj)) (bW (f2 (f2 (f2 (gv 0) (ci 0) bY) (ci 2) cQ) (ci 0) eqD))) (aG (aS fu (gv 2)) aV) aV) (aG (aR fu 3 (f2 (f2 (f2 (f2 (f2 (f2 (f2 (gv 2) (f2 (f2 (ci 7) (gv 1) dS) (gv 1) dS) addA) (f2 (ci 13) (gv 1) dS) addA) (ci 5) addA) (ci 48271) dS) (ci 2147483647) cQ) (ci 69621) dS) (ci 1000000007) cQ)) (aG (aS fu (f2 (f2 (f2 (f2 (f2 (gv 3) (ci 1) addA) (ci 40692) dS) (ci 2147483629) cQ) (ci 39373) dS) (ci 999999937) cQ)) aV)))))
def kb:List D->Res D:=fun ds=>aT false (xF (bL JC.length ds))
variable{P:H_}{w:Z_}{K:W.Frag}{mg:Str->Option a_}{base:Heap}
theorem Gk(T:Txt K mg)(A:DefAt K mg "_law_cell" Cz):Callee P w K mg base "_law_cell" xM [] 1 false q0 kb:=
 du (m':=fu) A yH fun f cdv A outer s H g E hr U=>have Y:=hr.units;(aM (cZ 2 yH.nd nA)
   (aM (bX (lZ (aJ 1) (bE (gm (by rfl) T.b_len (cK (aJ 0) cL)))) (aM (cZ 2 yH.nd (iy (xB U (aJ 0) (aJ 1)) (bE (V1 iB iB))))
   aW)
   aW)
   (aM (bX (SW.toQ (pe (jy (bE (gm (by rfl) T.b_len (cK (aJ 0) cL))) iB) (pB (jz Y (bE (iy (xB U (aJ 0) iB) iB)) iB)))) (aM (bU (v_ 2))
   aW)
   aW)
   (aM (cZ 3 yH.nd (iy (bE (mL (bE (iy (bE (mL (bE (jb (bE (jb (bE (jb (aJ 2) (bE (mL (bE (mL iB (aJ 1))) (aJ 1))))) (bE (mL iB (aJ 1))))) iB)) iB)) iB)) iB)) iB))
   (aM (bU (iy (bE (mL (bE (iy (bE (mL (bE (jb (aJ 3) iB)) iB)) iB)) iB)) iB))
   aW)))))
abbrev Cd:Stmt:=top 63
abbrev J6:List Str:=["_law_cell_here","_law_m","_law_row_here","_law_thing"]
abbrev wY:List Str:=["_law_cell_here","_law_m"]
theorem yC:FnScope J6 wY (aF Cd):=bZ
abbrev Ku:FS:=(aG (dg "list" kz 2 (aI (f2 (gv 0) (f2 (gv 3) (ci 1) addA) cQ) (aI (gv 3) aH)) insD) (aG (aR kz 0 (f2 (gv 0) (f2 (gv 3) (ci 1) addA) jO)) aV))
def Cj:FS:=(aG (aR [.sh,.bw,.sh,.sh] 2 (fW aH)) (aG (eJ kz (dX dO (aI (gv 1) aH)) (bS 3) Ku) (aG (aS kz (fC (aI (gv 2) aH) tupD)) aV)))
def n6:List D->Res D:=fun ds=>aT false (Cj (bL J6.length ds))
theorem FA(T:Txt K mg)(A:DefAt K mg "_law_row" Cd):Callee P w K mg base "_law_row" wY [] 1 false [.sh,.bw] n6:=
 du (m':=kz) A yC fun f cdv A outer s H g E hr U=>(aM (eI 2 yC.nd (by rfl) (dW rfl) (g6 de))
   (aM (jn I_ rfl (j3 (by rfl) T.b_range (cK (aJ 1) cL)) (c8 3 yC.nd) (aM (hU 2 rfl F_ Qdw PySem.F.type_list_insert So Ma (by rfl) (dw rfl) (df (iy (aJ 0) (bE (jb (aJ 3) iB))) (df (v_ 3) de)))
   (aM (cZ 0 yC.nd (ra (aJ 0) (bE (jb (aJ 3) iB))))
   aW)))
   (aM (bU (jd (by rfl) T.b_tuple (cK (aJ 2) cL)))
   aW)))
abbrev ss:Stmt:=top 64
abbrev yG:List Str:=["_law_script","_law_at","_law_n","_law_m"]
abbrev Db:List Str:=["_law_script","_law_at","_law_n","_law_m"]
theorem KU:FnScope yG Db (aF ss):=bZ
def C9:FS:=(aG (aS jC (fC (aI (eF 1 [3,0,1] (dX dO (aI (gv 2) aH)) (bS 0) (fun _=>Res.ok true) (bI (aI (bI (aI (gv 2) (aI (f2 (gv 3) (gv 0) addA) aH)) [] kb) (aI (gv 1) aH)) [] n6)) aH) tupD)) aV)
def sr:List D->Res D:=fun ds=>aT false (C9 (bL yG.length ds))
theorem Rt(T:Txt K mg)(A:DefAt K mg "_law_wishes" ss)(U:Callee P w K mg base "_law_cell" xM [] 1 false q0 kb)(Y:Callee P w K mg base "_law_row" wY [] 1 false [.sh,.bw] n6):Callee P w K mg base "_law_wishes" Db [] 2 false jC sr:=
 du (m':=jC) A KU fun f cdv A outer s H g E hr Z=>(aM (bU (jd (by rfl) T.b_tuple (cK (SO.toB (jQ (X:=(cw dm P w K mg base yG "_law_wishes" (aF ss) f cdv A outer s H E).nox) (N':=["_law_hand","_law_m","_law_script","_law_at"]) (nl:=1) (cap:=[3,0,1]) KU.nd rfl (hZ (osc:=(aF ss)) (ON:=yG) rfl rfl (by decide+kernel)) (kD.toC (j3 (by rfl) T.b_range (cK (aJ 2) cL))) (fun _ _ _ _ _ _=>(c8 0 (show QaG (["_law_hand","_law_m","_law_script","_law_at"]:List Str)by decide+kernel))) (hW (by decide)) (fun _ _ _ _ _ _=>jS) (fun _ _ _ _ _ _=>(bK Y (bF (bK U (aK (aJ 2) (aK (bE (jb (aJ 3) (aJ 0))) bG))) (aK (aJ 1) bG)))))) cL)))
   aW)
abbrev CB:Stmt:=top 65
abbrev JE:List Str:=["_law_cell_here","_law_n","_law_m","_law_owns_here","_law_hand","_law_thing"]
abbrev C6:List Str:=["_law_cell_here","_law_n","_law_m"]
theorem r6:FnScope JE C6 (aF CB):=bZ
abbrev Da:FS:=(aG (aR eQ 5 (f2 (gv 0) (f2 (gv 2) (ci 1) addA) cQ)) (aG (aR eQ 0 (f2 (gv 0) (f2 (gv 2) (ci 1) addA) jO)) (aG (dj eQ (gJ (bW (f2 (gv 5) (gv 2) eqD)) (bW (f2 (gv 5) (gv 3) ji))) (aG (dg "list" eQ 3 (aI (fun _=>Res.ok D.non) aH) appD) aV) (aG (dg "list" eQ 3 (aI (gv 5) aH) appD) aV)) aV)))
def CZ:FS:=(aG (aR l7 3 (fW aH)) (aG (eJ eQ (dX dO (aI (gv 1) aH)) (bS 4) Da) (aG (aS eQ (fC (aI (gv 3) aH) tupD)) aV)))
def xH:List D->Res D:=fun ds=>aT false (CZ (bL JE.length ds))
theorem Ql(T:Txt K mg)(A:DefAt K mg "_law_owns" CB):Callee P w K mg base "_law_owns" C6 [] 1 false ij xH:=
 du (m':=eQ) A r6 fun f cdv A outer s H g E hr Y=>have U:=hr.units;(aM (eI 3 r6.nd (by rfl) (dW rfl) (g6 de))
   (aM (jn I_ rfl (j3 (by rfl) T.b_range (cK (aJ 1) cL)) (c8 4 r6.nd) (aM (cZ 5 r6.nd (iy (aJ 0) (bE (jb (aJ 2) iB))))
   (aM (cZ 0 r6.nd (ra (aJ 0) (bE (jb (aJ 2) iB))))
   (aM (bX (SW.toQ (d9 (jz U (aJ 5) (aJ 2)) (my (oH Y (aJ 5) (aJ 3))))) (aM (hU 3 rfl F_ Qad Qae kg kR (by rfl) (dw rfl) (df jo de))
   aW)
   (aM (hU 3 rfl F_ Qad Qae kg kR (by rfl) (dw rfl) (df (v_ 5) de))
   aW))
   aW))))
   (aM (bU (jd (by rfl) T.b_tuple (cK (aJ 3) cL)))
   aW)))
abbrev m7:Stmt:=top 1
abbrev pK:List Str:=["value"]
abbrev mZ:List Str:=["value"]
theorem wI:FnScope pK mZ (aF m7):=bZ
def nO(Fr:List D->Res D):FS:=(aG (dj [Md.bw] (c6 (f1 (gv 0) (iX "list"))) (aG (aS [Md.bw] (eF 1 [] (bP dy (gv 0)) (bS 0) (fun _=>Res.ok true) (bI (aI (gv 0) aH) [] Fr))) aV) aV) (aG (dj [Md.bw] (c6 (f1 (gv 0) (iX "tuple"))) (aG (aS [Md.bw] (fC (aI (eF 1 [] (bP dy (gv 0)) (bS 0) (fun _=>Res.ok true) (bI (aI (gv 0) aH) [] Fr)) aH) tupD)) aV) aV) (aG (sQ [Md.bw] (gv 0)) aV)))
def jY:Nat->List D->Res D
|0=>fun ds=>aT false (Out.stuck)
|n+1=>fun ds=>aT false (nO (jY n) (bL pK.length ds))
abbrev lL:List D->Res D:=jY 6
theorem JX(T:Txt K mg)(A:DefAt K mg "copied" m7):∀n,Callee P w K mg base "copied" mZ [] (n+1) false [Md.bw] (jY n)
|0=>AM (k:=0) (ms:=[Md.bw]) (fs:=fun _=>Out.stuck) (m':=[Md.bw]) A wI rfl (fun _ _ _ _ _ _ us hl=>by obtain⟨u0,rfl⟩:=mv us hl;kernel_rfl) fun f cdv A outer s H g E hr=>⟨rfl,rB.2⟩
|n+1=>by
  have cr:Callee P w K mg base "copied" mZ [] (n+1) false [Md.bw] (jY n):=JX T A n;refine AM (k:=n+1) (ms:=[Md.bw]) (fs:=nO (jY n)) (m':=[Md.bw]) A wI rfl (fun _ _ _ _ _ _ us hl=>by obtain⟨u0,rfl⟩:=mv us hl;kernel_rfl) fun f cdv A outer s H g E hr=>?_;have Y:=dH hr;have U:=hr.units;exact(aM (bX (gG (bE (qG "list" "list" rfl (Q5 _) (by rfl) T.b_isinstance (by rfl) T.b_list (aJ 0)))) (aM (bU (SO.toE (jQ (X:=(cw dm P w K mg base pK "copied" (aF m7) f cdv A outer s H E).nox) (N':=["one"]) (nl:=1) (cap:=[]) wI.nd rfl (hZ (osc:=(aF m7)) (ON:=pK) rfl rfl (by decide+kernel)) (jq (aJ 0)) (fun _ _ _ _ _ _=>(c8 0 (show QaG (["one"]:List Str)by decide+kernel))) (hW (by decide)) (fun _ _ _ _ _ _=>jS) (fun _ _ _ _ _ _=>(qU (dds:=[]) cr (hr.mono (by omega)) (aK (aJ 0) bG))))))
   aW)
   aW)
   (aM (bX (gG (bE (qG "tuple" "tuple" rfl (IU _) (by rfl) T.b_isinstance (by rfl) T.b_tuple (aJ 0)))) (aM (bU (jd (by rfl) T.b_tuple (cK (SO.toB (jQ (X:=(cw dm P w K mg base pK "copied" (aF m7) f cdv A outer s H E).nox) (N':=["one"]) (nl:=1) (cap:=[]) wI.nd rfl (hZ (osc:=(aF m7)) (ON:=pK) rfl rfl (by decide+kernel)) (jq (aJ 0)) (fun _ _ _ _ _ _=>(c8 0 (show QaG (["one"]:List Str)by decide+kernel))) (hW (by decide)) (fun _ _ _ _ _ _=>jS) (fun _ _ _ _ _ _=>(qU (dds:=[]) cr (hr.mono (by omega)) (aK (aJ 0) bG))))) cL)))
   aW)
   aW)
   (aM (Ob (aJ 0))
   aW)))
theorem tU(T:Txt K mg)(A:DefAt K mg "copied" m7):Callee P w K mg base "copied" mZ [] 7 false [Md.bw] lL:=JX T A 6
abbrev m5:Stmt:=iC (top 57) 0
abbrev Ds:List Str:=["self","owns","order"]
abbrev rZ:List Str:=["self","owns","order"]
theorem KG:FnScope Ds rZ (aF m5):=bZ
def xS:FN:=(jF "owns" (bI (aI (gv 1) aH) [] lL) (jF "order" (bI (aI (gv 2) aH) [] lL) (fun _ ds=>Res.ok ds)))
def k9:nu:=fun ds=>xS (none::(ds.map some++p_ (Ds.length-(ds.length+1)) none)) []
theorem QH(T:Txt K mg)(A:MakeAtD K mg "ByRings" "ByRings" "ByRings.__init__" m5 [Value.none])(Y:Callee P w K mg base "copied" mZ [] 7 false [Md.bw] lL)(U:gD K "order" fK)(Z:gD K "owns" jU):CalleeN P w K mg base "ByRings" "ByRings" rZ [] 8 q0 k9:=by refine vY (ds:=[]) (k:=7) (fn:=xS) A KG rfl 3 rfl (fun _ _ _ _ _ _ _ us hl=>by obtain⟨u0,u1,u2,rfl⟩:=qu us hl;exact⟨_,rfl,rfl⟩) fun C xn f cdv A outer s H g E hr=>?_;have Cl:=dH hr;have BT:=hr.units;exact(py (Z "ByRings" C rfl xn).1 (Z "ByRings" C rfl xn).2 rfl (dw rfl) (bK Y (aK (aJ 1) bG)) (py (U "ByRings" C rfl xn).1 (U "ByRings" C rfl xn).2 rfl (dw rfl) (bK Y (aK (aJ 2) bG)) uB))
theorem Rx(T:Txt K mg)(A:MakeAtD K mg "ByRings" "ByRings" "ByRings.__init__" m5 [Value.none])(Y:Callee P w K mg base "copied" mZ [] 7 false [Md.bw] lL)(U:gD K "order" fK)(Z:gD K "owns" jU):CalleeN P w K mg base "ByRings" "ByRings" rZ [Value.none] 8 eO k9:=by refine vY (ds:=[Value.none]) (k:=7) (fn:=xS) A KG rfl 2 rfl (fun _ _ _ _ _ _ _ us hl=>by obtain⟨u0,u1,rfl⟩:=gl us hl;exact⟨_,rfl,rfl⟩) fun C xn f cdv A outer s H g E hr=>?_;have Cl:=dH hr;have BT:=hr.units;exact(py (Z "ByRings" C rfl xn).1 (Z "ByRings" C rfl xn).2 rfl (dw rfl) (bK Y (aK (aJ 1) bG)) (py (U "ByRings" C rfl xn).1 (U "ByRings" C rfl xn).2 rfl (dw rfl) (bK Y (aK (aJ 2) bG)) uB))
abbrev m6:Stmt:=iC (top 58) 0
abbrev Km:List Str:=["self","order"]
abbrev rY:List Str:=["self","order"]
theorem KF:FnScope Km rY (aF m6):=bZ
def xR:FN:=(jF "order" (bI (aI (gv 1) aH) [] lL) (fun _ ds=>Res.ok ds))
def k8:nu:=fun ds=>xR (none::(ds.map some++p_ (Km.length-(ds.length+1)) none)) []
theorem QG(T:Txt K mg)(A:MakeAtD K mg "ByOrder" "ByOrder" "ByOrder.__init__" m6 [Value.none])(Y:Callee P w K mg base "copied" mZ [] 7 false [Md.bw] lL)(U:gD K "order" fK):CalleeN P w K mg base "ByOrder" "ByOrder" rY [] 8 [Md.bw] k8:=by refine vY (ds:=[]) (k:=7) (fn:=xR) A KF rfl 2 rfl (fun _ _ _ _ _ _ _ us hl=>by obtain⟨u0,u1,rfl⟩:=gl us hl;exact⟨_,rfl,rfl⟩) fun C xn f cdv A outer s H g E hr=>?_;have BT:=dH hr;have Z:=hr.units;exact(py (U "ByOrder" C rfl xn).1 (U "ByOrder" C rfl xn).2 rfl (dw rfl) (bK Y (aK (aJ 1) bG)) uB)
theorem Rv(T:Txt K mg)(A:MakeAtD K mg "ByOrder" "ByOrder" "ByOrder.__init__" m6 [Value.none])(Y:Callee P w K mg base "copied" mZ [] 7 false [Md.bw] lL)(U:gD K "order" fK):CalleeN P w K mg base "ByOrder" "ByOrder" rY [Value.none] 8 [Md.sh] k8:=by refine vY (ds:=[Value.none]) (k:=7) (fn:=xR) A KF rfl 1 rfl (fun _ _ _ _ _ _ _ us hl=>by obtain⟨u0,rfl⟩:=mv us hl;exact⟨_,rfl,rfl⟩) fun C xn f cdv A outer s H g E hr=>?_;have BT:=dH hr;have Z:=hr.units;exact(py (U "ByOrder" C rfl xn).1 (U "ByOrder" C rfl xn).2 rfl (dw rfl) (bK Y (aK (aJ 1) bG)) uB)
abbrev B1:Stmt:=top 9
abbrev JN:List Str:=["value"]
abbrev wZ:List Str:=["value"]
theorem Ux:FnScope JN wZ (aF B1):=bZ
def TX:FS:=(aG (aS [Md.bw] (gQ (f1 (gv 0) (iX "int")) (sF (f1 (gv 0) (iX "bool"))))) aV)
def nb:List D->Res D:=fun ds=>aT false (TX (bL JN.length ds))
theorem FB(T:Txt K mg)(A:DefAt K mg "is_whole" B1):Callee P w K mg base "is_whole" wZ [] 1 false [Md.bw] nb:=
 du (m':=[Md.bw]) A Ux fun f cdv A outer s H g E hr U=>(aM (bU (uL (qG "int" "int" rfl (Pa _) (by rfl) T.b_isinstance (by rfl) T.b_int (aJ 0)) (qK (V0 (qG "bool" "bool" rfl (Q4 _) (by rfl) T.b_isinstance (by rfl) T.b_bool (aJ 0))))))
   aW)
abbrev B0:Stmt:=top 10
abbrev JM:List Str:=["value","bound"]
abbrev Cq:List Str:=["value","bound"]
theorem Uw:FnScope JM Cq (aF B0):=bZ
def Cm:FS:=(aG (aS q0 (gQ (bI (aI (gv 0) aH) [] nb) (qW (ci 0) (gv 0) (gv 1) EC jh))) aV)
def rQ:List D->Res D:=fun ds=>aT false (Cm (bL JM.length ds))
theorem OG(T:Txt K mg)(A:DefAt K mg "is_below" B0)(U:Callee P w K mg base "is_whole" wZ [] 1 false [Md.bw] nb):Callee P w K mg base "is_below" Cq [] 2 false q0 rQ:=
 du (m':=q0) A Uw fun f cdv A outer s H g E hr Y=>(aM (bU (uL (bK U (aK (aJ 0) bG)) (qK (RS VN Ak VI VJ iB (aJ 0) (aJ 1)))))
   aW)
abbrev CP:Stmt:=top 11
abbrev KN:List Str:=["numbers","bound","ahead","place","number"]
abbrev yD:List Str:=["numbers","bound"]
theorem zD:FnScope KN yD (aF CP):=bZ
abbrev sx:FS:=(aG (dj fU (gJ (dF (c6 (bI (aI (gv 4) (aI (gv 1) aH)) [] rQ))) (bW (f2 (gv 4) (gv 2) ji))) (aG (aS fU (gv 3)) aV) aV) (aG (putF fU 2 (gv 4) (fun _=>Res.ok (D.bl true))) aV))
def sm:FS:=(aG (aR oM 2 (fun _=>Res.ok (D.dic []))) (aG (eJ fU (tw (gv 0)) (lc (fJ (bS 3) (fJ (bS 4) kJ))) sx) (aG (aS fU (fC (aI (gv 0) aH) lenD)) aV)))
def oi:List D->Res D:=fun ds=>aT false (sm (bL KN.length ds))
theorem Ru(T:Txt K mg)(A:DefAt K mg "first_wrong" CP)(U:Callee P w K mg base "is_below" Cq [] 2 false q0 rQ):Callee P w K mg base "first_wrong" yD [] 3 false q0 oi:=
 du (m':=fU) A zD fun f cdv A outer s H g E hr Y=>(aM (eI 2 zD.nd (by rfl) (dW rfl) jr)
   (aM (pD I_ rfl (O3 (by rfl) T.b_enumerate (qa 0)) (uF rfl (kS (c8 3 zD.nd) (kS (c8 4 zD.nd) uE))) (aM (bX (SW.toQ (d9 (i9 (gG (bE (bK U (aK (aJ 4) (aK (aJ 1) bG)))))) (my (oH Y (aJ 4) (aJ 2))))) (aM (bU (v_ 3))
   aW)
   aW)
   (aM (j7 2 Y rfl (by rfl) (dw rfl) (aJ 4) dN)
   aW)))
   (aM (bU (gm (by rfl) T.b_len (cK (aJ 0) cL)))
   aW)))
abbrev CH:Stmt:=top 12
abbrev Ki:List Str:=["numbers","bound"]
abbrev De:List Str:=["numbers","bound"]
theorem UR:FnScope Ki De (aF CH):=bZ
def Dn:FS:=(aG (aS q0 (f2 (bI (aI (gv 0) (aI (gv 1) aH)) [] oi) (fC (aI (gv 0) aH) lenD) eqD)) aV)
def xV:List D->Res D:=fun ds=>aT false (Dn (bL Ki.length ds))
theorem QB(T:Txt K mg)(A:DefAt K mg "are_unlike" CH)(U:Callee P w K mg base "first_wrong" yD [] 3 false q0 oi):Callee P w K mg base "are_unlike" De [] 4 false q0 xV:=
 du (m':=q0) A UR fun f cdv A outer s H g E hr Z=>have Y:=hr.units;(aM (bU (gT Y (bE (bK U (aK (aJ 0) (aK (aJ 1) bG)))) (bE (gm (by rfl) T.b_len (cK (aJ 0) cL)))))
   aW)
abbrev C8:Stmt:=top 13
abbrev Le:List Str:=["numbers","bound"]
abbrev yV:List Str:=["numbers","bound"]
theorem Vl:FnScope Le yV (aF C8):=bZ
def sw:FS:=(aG (aS q0 (gQ (f2 (fC (aI (gv 0) aH) lenD) (gv 1) eqD) (bI (aI (gv 0) (aI (gv 1) aH)) [] xV))) aV)
def og:List D->Res D:=fun ds=>aT false (sw (bL Le.length ds))
theorem TW(T:Txt K mg)(A:DefAt K mg "has_each_once" C8)(U:Callee P w K mg base "are_unlike" De [] 4 false q0 xV):Callee P w K mg base "has_each_once" yV [] 5 false q0 og:=
 du (m':=q0) A Vl fun f cdv A outer s H g E hr Z=>have Y:=hr.units;(aM (bU (uL (gT Y (bE (gm (by rfl) T.b_len (cK (aJ 0) cL))) (aJ 1)) (qK (bK U (aK (aJ 0) (aK (aJ 1) bG))))))
   aW)
abbrev B3:Stmt:=top 17
abbrev JP:List Str:=["wishes","order"]
abbrev rR:List Str:=["wishes","order"]
theorem Uy:FnScope JP rR (aF B3):=bZ
def pT:FS:=(aG (dj q0 (bW (f2 (gv 1) (fun _=>Res.ok D.non) qh)) (aG (aS q0 (fC (aI (fC (aI (gv 0) aH) lenD) aH) ll)) aV) aV) (aG (dj q0 (dF (c6 (bI (aI (gv 1) (aI (fC (aI (gv 0) aH) lenD) aH)) [] og))) (aG (fun _=>Out.stuck) aV) aV) (aG (aS q0 (fC (aI (gv 1) aH) nv)) aV)))
def k4:List D->Res D:=fun ds=>aT false (pT (bL JP.length ds))
theorem OK(T:Txt K mg)(A:DefAtD K mg "order_of" B3 [Value.none])(U:Callee P w K mg base "has_each_once" yV [] 5 false q0 og):Callee P w K mg base "order_of" rR [] 6 false q0 k4:=by
 refine pH (ds:=[]) (k:=5) (fs:=pT) (m':=q0) A Uy rfl 2 rfl (fun _ _ _ _ _ _ _ us hl=>by obtain⟨u0,u1,rfl⟩:=gl us hl;exact⟨_,rfl,rfl⟩) fun f cdv A outer s H g E hr=>?_;have Z:=dH hr;have Y:=hr.units;exact(aM (bX (oG (aJ 1) (bE jo)) (aM (bU (SO.toE (pI rfl (by rfl) T.b_list (by rfl) T.b_range (cK (bE (gm (by rfl) T.b_len (cK (aJ 0) cL))) cL))))
   aW)
   aW)
   (aM (bX (i9 (gG (bE (bK U (aK (aJ 1) (aK (bE (gm (by rfl) T.b_len (cK (aJ 0) cL))) bG)))))) (aM vE
   aW)
   aW)
   (aM (bU (SO.toE (uQ (by rfl) T.b_list (cK (aJ 1) cL))))
   aW)))
abbrev CL:Stmt:=top 17
abbrev Kn:List Str:=["wishes","order"]
abbrev yB:List Str:=["wishes","order"]
theorem US:FnScope Kn yB (aF CL):=bZ
def xU:FS:=(aG (dj bO (bW (f2 (gv 1) (fun _=>Res.ok D.non) qh)) (aG (aS bO (fC (aI (fC (aI (gv 0) aH) lenD) aH) ll)) aV) aV) (aG (dj bO (dF (c6 (bI (aI (gv 1) (aI (fC (aI (gv 0) aH) lenD) aH)) [] og))) (aG (uO bO "NoOrder" "at" (aI (bI (aI (gv 1) (aI (fC (aI (gv 0) aH) lenD) aH)) [] oi) aH)) aV) aV) (aG (aS bO (fC (aI (gv 1) aH) nv)) aV)))
def pY:List D->Res D:=fun ds=>aT false (xU (bL Kn.length ds))
theorem QI(T:Txt K mg)(A:DefAtD K mg "order_of" CL [Value.none])(U:Callee P w K mg base "has_each_once" yV [] 5 false q0 og)(Z:Callee P w K mg base "first_wrong" yD [] 3 false q0 oi){Y:Addr}(BT:XCI P w K mg base "NoOrder" Y "at")(Cl:XN K "NoOrder" Y):CalleeX P w K mg base "order_of" yB [] 6 false bO pY:=by
 refine vX (k:=5) (fs:=xU) (m':=bO) A US rfl (fun _ _ _ _ _ _ _ us hl=>by obtain⟨u0,u1,rfl⟩:=gl us hl;exact⟨_,rfl,rfl⟩) fun f cdv A outer s H g E hr=>?_;have IO:=dH hr;have Id:=hr.units;exact(aM (bX (oG (aJ 1) (bE jo)) (aM (bU (SO.toE (pI rfl (by rfl) T.b_list (by rfl) T.b_range (cK (bE (gm (by rfl) T.b_len (cK (aJ 0) cL))) cL))))
   aW)
   aW)
   (aM (bX (i9 (gG (bE (bK U (aK (aJ 1) (aK (bE (gm (by rfl) T.b_len (cK (aJ 0) cL))) bG)))))) (aM (RT rfl BT Cl (hr.mono (by decide)) (by rfl) (df (bK Z (aK (aJ 1) (aK (bE (gm (by rfl) T.b_len (cK (aJ 0) cL))) bG))) de))
   aW)
   aW)
   (aM (bU (SO.toE (uQ (by rfl) T.b_list (cK (aJ 1) cL))))
   aW)))
abbrev sk:Stmt:=top 19
abbrev xL:List Str:=["row","things"]
abbrev n0:List Str:=["row","things"]
theorem Ks:FnScope xL n0 (aF sk):=bZ
def sd:FS:=(aG (aS q0 (f2 (eF 1 [1] (bP dy (gv 0)) (bS 0) (bW (f2 (gv 0) (gv 1) ji)) (gv 0)) (ci 0) bY)) aV)
def iF:List D->Res D:=fun ds=>aT false (sd (bL xL.length ds))
theorem qo(T:Txt K mg)(A:DefAt K mg "best_left" sk):Callee P w K mg base "best_left" n0 [] 1 false q0 iF:=
 du (m':=q0) A Ks fun f cdv A outer s H g E hr U=>(aM (bU (hJ U (SO.toB (jQ (X:=(cw dm P w K mg base xL "best_left" (aF sk) f cdv A outer s H E).nox) (N':=["thing","things"]) (nl:=1) (cap:=[1]) Ks.nd rfl (hZ (osc:=(aF sk)) (ON:=xL) rfl rfl (by decide+kernel)) (jq (aJ 0)) (fun _ _ _ _ _ _=>(c8 0 (show QaG (["thing","things"]:List Str)by decide+kernel))) (hW (by decide)) (fun _ _ _ _ _ _=>(qR (oH U (aJ 0) (aJ 1)))) (fun _ _ _ _ _ _=>(v_ 0)))) iB))
   aW)
abbrev CM:Stmt:=top 20
abbrev Ko:List Str:=["owns","line","thing","hand"]
abbrev Di:List Str:=["owns","line","thing"]
theorem KH:FnScope Ko Di (aF CM):=bZ
abbrev sA:FS:=(aG (dj ii (bW (f2 (f2 (gv 0) (gv 3) bY) (gv 2) eqD)) (aG (aS ii (gv 3)) aV) aV) aV)
def Dq:FS:=(aG (eJ ii (bP dy (gv 1)) (bS 3) sA) (aG (aS ii (fun _=>Res.ok D.non)) aV))
def xZ:List D->Res D:=fun ds=>aT false (Dq (bL Ko.length ds))
theorem QJ(T:Txt K mg)(A:DefAt K mg "owner_left" CM):Callee P w K mg base "owner_left" Di [] 1 false gV xZ:=
 du (m':=ii) A KH fun f cdv A outer s H g E hr Y=>have U:=hr.units;(aM (FX I_ rfl (jq (aJ 1)) (fun _=>(c8 3 KH.nd)) (fun _=>(aM (bX (jz U (xB Y (aJ 0) (aJ 3)) (aJ 2)) (aM (bU (v_ 3))
   aW)
   aW)
   aW)))
   (aM (bU jo)
   aW))
abbrev DM:Stmt:=top 44
abbrev Ll:List Str:=["owns","line","thing","owner"]
abbrev DR:List Str:=["owns","line","thing"]
theorem Lu:FnScope Ll DR (aF DM):=bZ
def DP:FS:=(aG (aR ii 3 (bI (aI (gv 0) (aI (gv 1) (aI (gv 2) aH))) [] xZ)) (aG (aS ii (oS (bW (f2 (gv 3) (fun _=>Res.ok D.non) qh)) (f2 (gv 1) (ci 0) bY) (gv 3))) aV))
def sv:List D->Res D:=fun ds=>aT false (DP (bL Ll.length ds))
theorem T5(T:Txt K mg)(A:DefAt K mg "hand_pointed_at" DM)(U:Callee P w K mg base "owner_left" Di [] 1 false gV xZ):Callee P w K mg base "hand_pointed_at" DR [] 2 false gV sv:=
 du (m':=ii) A Lu fun f cdv A outer s H g E hr Y=>(aM (cZ 3 Lu.nd (bK U (aK (aJ 0) (aK (aJ 1) (aK (aJ 2) bG)))))
   (aM (bU (Ft (oG (aJ 3) (bE jo)) (hJ Y (aJ 1) iB) (v_ 3)))
   aW))
abbrev CD:Stmt:=top 45
abbrev JG:List Str:=["first","targets","behind","ring","hand"]
abbrev CQ:List Str:=["first","targets","behind"]
theorem yJ:FnScope JG CQ (aF CD):=bZ
abbrev Dy:FQ:=(eV (bW (f2 (gv 4) (gv 0) jj)) (bW (f2 (fC (aI (gv 3) aH) lenD) (fC (aI (gv 1) aH) lenD) jh)))
abbrev KJ:FS:=(aG (dg "list" iT 3 (aI (lb (aI (gv 4) (aI (f2 (gv 1) (gv 4) bY) aH))) aH) appD) (aG (aR iT 4 (f2 (gv 2) (gv 4) bY)) aV))
def C1:FS:=(aG (aR fT 3 (fW (aI (lb (aI (gv 0) (aI (f2 (gv 1) (gv 0) bY) aH))) aH))) (aG (aR iT 4 (f2 (gv 2) (gv 0) bY)) (aG (gp iT Dy KJ 64) (aG (aS iT (oS (bW (f2 (gv 4) (gv 0) eqD)) (fC (aI (gv 3) aH) tupD) (fun _=>Res.ok D.non))) aV))))
def xI:List D->Res D:=fun ds=>aT false (C1 (bL JG.length ds))
theorem Qr(T:Txt K mg)(A:DefAt K mg "ring_from" CD):Callee P w K mg base "ring_from" CQ [] 1 false ij xI:=
 du (m':=iT) A yJ fun f cdv A outer s H g E hr U=>have Y:=hr.units;(aM (eI 3 yJ.nd (by rfl) (dW rfl) (g6 (df (nB (df (v_ 0) (df (hJ U (aJ 1) (aJ 0)) de))) de)))
   (aM (cZ 4 yJ.nd (hJ U (aJ 2) (aJ 0)))
   (aM (vF 64 I_ (SW.toQ (pe (jy (aJ 4) (aJ 0)) (pB (lZ (bE (gm (by rfl) T.b_len (cK (aJ 3) cL))) (bE (gm (by rfl) T.b_len (cK (aJ 1) cL))))))) (aM (hU 3 rfl F_ Qad Qae kg kR (by rfl) (dw rfl) (df (nB (df (v_ 4) (df (hJ U (aJ 1) (aJ 4)) de))) de))
   (aM (cZ 4 yJ.nd (hJ U (aJ 2) (aJ 4)))
   aW)))
   (aM (bU (Ft (jz Y (aJ 4) (aJ 0)) (jd (by rfl) T.b_tuple (cK (aJ 3) cL)) jo))
   aW))))
abbrev oj:Stmt:=top 46
abbrev p8:List Str:=["wishes","owns","line","things","targets","behind","hand","walks"]
abbrev DH:List Str:=["wishes","owns","line","things"]
theorem p9:FnScope p8 DH (aF oj):=bZ
abbrev Lf:FS:=(aG (putF ky 4 (gv 6) (bI (aI (f2 (gv 0) (gv 6) bY) (aI (gv 3) aH)) [] iF)) (aG (putF ky 5 (gv 6) (bI (aI (gv 1) (aI (gv 2) (aI (f2 (gv 4) (gv 6) bY) aH))) [] sv)) aV))
def DA:FS:=(aG (aR [.bw,.bw,.bw,.bw,.sh,.sh,.sh,.sh] 4 (fun _=>Res.ok (D.dic []))) (aG (aR [.bw,.bw,.bw,.bw,.ow,.sh,.sh,.sh] 5 (fun _=>Res.ok (D.dic []))) (aG (eJ ky (bP dy (gv 2)) (bS 6) Lf) (aG (aR ky 7 (eF 1 [4,5] (bP dy (gv 2)) (bS 0) (fun _=>Res.ok true) (bI (aI (gv 0) (aI (gv 1) (aI (gv 2) aH))) [] xI))) (aG (aS sY (fC (aI (eF 1 [] (bP dy (gv 7)) (bS 0) (bW (f2 (gv 0) (fun _=>Res.ok D.non) ik)) (gv 0)) aH) uN)) aV)))))
def yU:List D->Res D:=fun ds=>aT false (DA (bL p8.length ds))
theorem TH(T:Txt K mg)(A:DefAt K mg "rings_of_round" oj)(Z:Callee P w K mg base "best_left" n0 [] 1 false q0 iF)(U:Callee P w K mg base "hand_pointed_at" DR [] 2 false gV sv)(Y:Callee P w K mg base "ring_from" CQ [] 1 false ij xI):Callee P w K mg base "rings_of_round" DH [] 3 false jC yU:=
 du (m':=sY) A p9 fun f cdv A outer s H g E hr BT=>(aM (eI 4 p9.nd (by rfl) (dW rfl) jr)
   (aM (eI 5 p9.nd (by rfl) (dW rfl) jr)
   (aM (pD I_ rfl (q8 (qa 2)) (c8 6 p9.nd) (aM (j7 4 BT rfl (by rfl) (dw rfl) (aJ 6) (bK Z (aK (xB BT (aJ 0) (aJ 6)) (aK (aJ 3) bG))))
   (aM (j7 5 BT rfl (by rfl) (dw rfl) (aJ 6) (bK U (aK (aJ 1) (aK (aJ 2) (aK (xB BT (aJ 4) (aJ 6)) bG)))))
   aW)))
   (aM (rM 7 (X:=(cw dm P w K mg base p8 "rings_of_round" (aF oj) f cdv A outer s H E).nox) (m:=ky) (N':=["hand","targets","behind"]) (nl:=1) (cap:=[4,5]) p9.nd rfl (by rfl) (by rfl) (hZ (osc:=(aF oj)) (ON:=p8) rfl rfl (by decide+kernel)) (jq (aJ 2)) (fun _ _ _ _ _ _=>(c8 0 (show QaG (["hand","targets","behind"]:List Str)by decide+kernel))) (hW (by decide)) (fun _ _ _ _ _ _=>jS) (fun _ _ _ _ _ _=>(bK Y (bF (v_ 0) (aK (aJ 1) (aK (aJ 2) bG))))))
   (aM (bU (SO.toE (Qy hr (by rfl) T.b_sorted (cK (SO.toB (jQ (X:=(cw dm P w K mg base p8 "rings_of_round" (aF oj) f cdv A outer s H E).nox) (N':=["ring"]) (nl:=1) (cap:=[]) p9.nd rfl (hZ (osc:=(aF oj)) (ON:=p8) rfl rfl (by decide+kernel)) (jq (aJ 7)) (fun _ _ _ _ _ _=>(c8 0 (show QaG (["ring"]:List Str)by decide+kernel))) (hW (by decide)) (fun _ _ _ _ _ _=>(qR (qJ (aJ 0) (bE jo)))) (fun _ _ _ _ _ _=>(v_ 0)))) cL))))
   aW)))))
abbrev BN:Stmt:=top 21
abbrev Iy:List Str:=["rings","got","ring","hand","thing"]
abbrev pM:List Str:=["rings"]
theorem rN:FnScope Iy pM (aF BN):=bZ
abbrev J2:FS:=(aG (putF oK 1 (gv 3) (gv 4)) aV)
abbrev J3:FS:=(aG (eJ oK (bP dy (gv 2)) (lc (fJ (bS 3) (fJ (bS 4) kJ))) J2) aV)
def BP:FS:=(aG (aR l6 1 (fun _=>Res.ok (D.dic []))) (aG (eJ oK (bP dy (gv 0)) (bS 2) J3) (aG (aS l6 (gv 1)) aV)))
def lM:List D->Res D:=fun ds=>aT false (BP (bL Iy.length ds))
theorem tV(T:Txt K mg)(A:DefAt K mg "got_in" BN):Callee P w K mg base "got_in" pM [] 1 false [Md.bw] lM:=
 du (m':=l6) A rN fun f cdv A outer s H g E hr U=>(aM (eI 1 rN.nd (by rfl) (dW rfl) jr)
   (aM (pD I_ rfl (q8 (qa 0)) (c8 2 rN.nd) (aM (jn I_ rfl (mG (v_ 2)) (uF rfl (kS (c8 3 rN.nd) (kS (c8 4 rN.nd) uE))) (aM (j7 1 U rfl (by rfl) (dw rfl) (aJ 3) (v_ 4))
   aW))
   aW))
   (aM (mK 1 rfl (bU (v_ 1)))
   aW)))
abbrev Ci:Stmt:=top 14
abbrev JI:List Str:=["wishes"]
abbrev je:List Str:=["wishes"]
theorem U0:FnScope JI je (aF Ci):=bZ
def C4:FS:=(aG (aS [Md.bw] (fC (aI (f2 (gv 0) (ci 0) bY) aH) lenD)) aV)
def eL:List D->Res D:=fun ds=>aT false (C4 (bL JI.length ds))
theorem jM(T:Txt K mg)(A:DefAt K mg "things_in" Ci):Callee P w K mg base "things_in" je [] 1 false [Md.bw] eL:=
 du (m':=[Md.bw]) A U0 fun f cdv A outer s H g E hr U=>(aM (bU (gm (by rfl) T.b_len (cK (xB U (aJ 0) iB) cL)))
   aW)
abbrev nU:Stmt:=top 47
abbrev pL:List Str:=["wishes","owns","order","line","things","told","rings","got","taken"]
abbrev vT:List Str:=["wishes","owns","order"]
theorem lN:FnScope pL vT (aF nU):=bZ
abbrev JR:FQ:=(c6 (gv 3))
abbrev J5:FS:=(aG (aR iS 6 (bI (aI (gv 0) (aI (gv 1) (aI (gv 3) (aI (gv 4) aH)))) [] yU)) (aG (aR iS 7 (bI (aI (gv 6) aH) [] lM)) (aG (aR iS 8 (f1 (gv 7) AD)) (aG (aR iS 3 (eF 1 [7] (bP dy (gv 3)) (bS 0) (bW (f2 (gv 0) (gv 1) fV)) (gv 0))) (aG (aR sX 4 (eF 1 [8] (bP dy (gv 4)) (bS 0) (bW (f2 (gv 0) (gv 1) fV)) (gv 0))) (aG (dg "list" sW 5 (aI (gv 6) aH) appD) aV))))))
def vR:FS:=(aG (aR kx 3 (bI (aI (gv 0) (aI (gv 2) aH)) [] k4)) (aG (aR kx 4 (fC (aI (bI (aI (gv 0) aH) [] eL) aH) ll)) (aG (aR kx 5 (fW aH)) (aG (gp iS JR J5 64) (aG (aS kx (gv 5)) aV)))))
def rK:List D->Res D:=fun ds=>aT false (vR (bL pL.length ds))
theorem Nk(T:Txt K mg)(A:DefAtD K mg "rounds" nU [Value.none])(Z:Callee P w K mg base "order_of" rR [] 6 false q0 k4)(Y:Callee P w K mg base "things_in" je [] 1 false [Md.bw] eL)(U:Callee P w K mg base "rings_of_round" DH [] 3 false jC yU)(BT:Callee P w K mg base "got_in" pM [] 1 false [Md.bw] lM):Callee P w K mg base "rounds" vT [] 7 false gV rK:=by
 refine pH (ds:=[]) (k:=6) (fs:=vR) (m':=kx) A lN rfl 3 rfl (fun _ _ _ _ _ _ _ us hl=>by obtain⟨u0,u1,u2,rfl⟩:=qu us hl;exact⟨_,rfl,rfl⟩) fun f cdv A outer s H g E hr=>?_;have Cl:=dH hr;have Id:=hr.units;exact(aM (cZ 3 lN.nd (bK Z (aK (aJ 0) (aK (aJ 2) bG))))
   (aM (cZ 4 lN.nd (SO.toE (pI rfl (by rfl) T.b_list (by rfl) T.b_range (cK (bE (bK Y (aK (aJ 0) bG))) cL))))
   (aM (eI 5 lN.nd (by rfl) (dW rfl) (g6 de))
   (aM (vF 64 I_ (gG (aJ 3)) (Js (m':=[.bw,.bw,.bw,.sh,.ow,.ow,.sh,.sh,.sh]) 4 (Js (m':=sW) 3 (aM (cZ 6 lN.nd (bK U (aK (aJ 0) (aK (aJ 1) (aK (aJ 3) (aK (aJ 4) bG))))))
   (aM (cZ 7 lN.nd (bK BT (aK (aJ 6) bG)))
   (aM (cZ 8 lN.nd (SO.toE (Nh rfl (by rfl) T.b_list (aJ 7))))
   (aM (rM 3 (X:=(cw dm P w K mg base pL "rounds" (aF nU) f cdv A outer s H E).nox) (m:=iS) (N':=["hand","got"]) (nl:=1) (cap:=[7]) lN.nd rfl (by rfl) (by rfl) (hZ (osc:=(aF nU)) (ON:=pL) rfl rfl (by decide+kernel)) (jq (aJ 3)) (fun _ _ _ _ _ _=>(c8 0 (show QaG (["hand","got"]:List Str)by decide+kernel))) (hW (by decide)) (fun _ _ _ _ _ _=>(qR (Ay Cl (aJ 0) (aJ 1)))) (fun _ _ _ _ _ _=>(v_ 0)))
   (aM (rM 4 (X:=(cw dm P w K mg base pL "rounds" (aF nU) f cdv A outer s H E).nox) (m:=sX) (N':=["thing","taken"]) (nl:=1) (cap:=[8]) lN.nd rfl (by rfl) (by rfl) (hZ (osc:=(aF nU)) (ON:=pL) rfl rfl (by decide+kernel)) (jq (aJ 4)) (fun _ _ _ _ _ _=>(c8 0 (show QaG (["thing","taken"]:List Str)by decide+kernel))) (hW (by decide)) (fun _ _ _ _ _ _=>(qR (Ay Cl (aJ 0) (aJ 1)))) (fun _ _ _ _ _ _=>(v_ 0)))
   (aM (hU 5 rfl F_ Qad Qae kg kR (by rfl) (dw rfl) (df (v_ 6) de))
   aW)))))) rfl) rfl))
   (aM (mK 5 rfl (bU (v_ 5)))
   aW)))))
abbrev B4:Stmt:=top 47
abbrev JQ:List Str:=["wishes","owns","order","line","things","told","rings","got","taken"]
abbrev Cu:List Str:=["wishes","owns","order"]
theorem Ke:FnScope JQ Cu (aF B4):=bZ
def wU:FS:=(aG (aR sV 3 (iw (aI (gv 0) (aI (gv 2) aH)) [] pY)) (fun _=>Out.stuck))
def wX:List D->Res D:=fun ds=>aT false (wU (bL JQ.length ds))
theorem OL(T:Txt K mg)(A:DefAtD K mg "rounds" B4 [Value.none])(U:CalleeX P w K mg base "order_of" yB [] 6 false bO pY):CalleeX P w K mg base "rounds" Cu [] 7 false [.sh,.bw,.sh] wX:=by
 refine vX (k:=6) (fs:=wU) (m':=sV) A Ke rfl (fun _ _ _ _ _ _ _ us hl=>by obtain⟨u0,u1,u2,rfl⟩:=qu us hl;exact⟨_,rfl,rfl⟩) fun f cdv A outer s H g E hr=>?_;have Z:=dH hr;have Y:=hr.units;exact(aM (cZ 3 Ke.nd (lF U (hr.mono (by decide)) (bF (v_ 0) (bF (v_ 2) bG))))
   rB)
abbrev rW:Stmt:=top 22
abbrev yA:List Str:=["got"]
abbrev oh:List Str:=["got"]
theorem KB:FnScope yA oh (aF rW):=bZ
def Do:FS:=(aG (aS [Md.bw] (fC (aI (eF 1 [0] (dX dO (aI (fC (aI (gv 0) aH) lenD) aH)) (bS 0) (fun _=>Res.ok true) (f2 (gv 1) (gv 0) bY)) aH) tupD)) aV)
def k7:List D->Res D:=fun ds=>aT false (Do (bL yA.length ds))
theorem qp(T:Txt K mg)(A:DefAt K mg "dealing_of" rW):Callee P w K mg base "dealing_of" oh [] 1 false [Md.bw] k7:=
 du (m':=[Md.bw]) A KB fun f cdv A outer s H g E hr U=>(aM (bU (jd (by rfl) T.b_tuple (cK (SO.toB (jQ (X:=(cw dm P w K mg base yA "dealing_of" (aF rW) f cdv A outer s H E).nox) (N':=["hand","got"]) (nl:=1) (cap:=[0]) KB.nd rfl (hZ (osc:=(aF rW)) (ON:=yA) rfl rfl (by decide+kernel)) (kD.toC (j3 (by rfl) T.b_range (cK (bE (gm (by rfl) T.b_len (cK (aJ 0) cL))) cL))) (fun _ _ _ _ _ _=>(c8 0 (show QaG (["hand","got"]:List Str)by decide+kernel))) (hW (by decide)) (fun _ _ _ _ _ _=>jS) (fun _ _ _ _ _ _=>(hJ U (aJ 1) (aJ 0))))) cL)))
   aW)
abbrev xE:Stmt:=top 48
abbrev JK:List Str:=["wishes","owns","order","got","rings"]
abbrev pV:List Str:=["wishes","owns","order"]
theorem p7:FnScope JK pV (aF xE):=bZ
abbrev Kw:FS:=(aG (dg "dict" ku 3 (aI (bI (aI (gv 4) aH) [] lM) aH) updD) aV)
def rP:FS:=(aG (aR oM 3 (fun _=>Res.ok (D.dic []))) (aG (eJ ku (bP dy (bI (aI (gv 0) (aI (gv 1) (aI (gv 2) aH))) [] rK)) (bS 4) Kw) (aG (aS ku (bI (aI (gv 3) aH) [] k7)) aV)))
def iM:List D->Res D:=fun ds=>aT false (rP (bL JK.length ds))
theorem OE(T:Txt K mg)(A:DefAtD K mg "by_rings" xE [Value.none])(Z:Callee P w K mg base "rounds" vT [] 7 false gV rK)(Y:Callee P w K mg base "got_in" pM [] 1 false [Md.bw] lM)(U:Callee P w K mg base "dealing_of" oh [] 1 false [Md.bw] k7):Callee P w K mg base "by_rings" pV [] 8 false kt iM:=by
 refine pH (ds:=[]) (k:=7) (fs:=rP) (m':=ku) A p7 rfl 3 rfl (fun _ _ _ _ _ _ _ us hl=>by obtain⟨u0,u1,u2,rfl⟩:=qu us hl;exact⟨_,rfl,rfl⟩) fun f cdv A outer s H g E hr=>?_;have Cl:=dH hr;have BT:=hr.units;exact(aM (eI 3 p7.nd (by rfl) (dW rfl) jr)
   (aM (jn I_ rfl (mG (bK Z (aK (aJ 0) (aK (aJ 1) (aK (aJ 2) bG))))) (c8 4 p7.nd) (aM (hU 3 rfl QbF Qbw Qch Ca A1 (by rfl) (dw rfl) (df (bK Y (aK (aJ 4) bG)) de))
   aW))
   (aM (bU (bK U (aK (aJ 3) bG)))
   aW)))
theorem Qo(T:Txt K mg)(A:DefAtD K mg "by_rings" xE [Value.none])(Z:Callee P w K mg base "rounds" vT [] 7 false gV rK)(Y:Callee P w K mg base "got_in" pM [] 1 false [Md.bw] lM)(U:Callee P w K mg base "dealing_of" oh [] 1 false [Md.bw] k7):Callee P w K mg base "by_rings" pV [Value.none] 8 false kt iM:=by
 refine pH (ds:=[Value.none]) (k:=7) (fs:=rP) (m':=ku) A p7 rfl 2 rfl (fun _ _ _ _ _ _ _ us hl=>by obtain⟨u0,u1,rfl⟩:=gl us hl;exact⟨_,rfl,rfl⟩) fun f cdv A outer s H g E hr=>?_;have Cl:=dH hr;have BT:=hr.units;exact(aM (eI 3 p7.nd (by rfl) (dW rfl) jr)
   (aM (jn I_ rfl (mG (bK Z (aK (aJ 0) (aK (aJ 1) (aK (aJ 2) bG))))) (c8 4 p7.nd) (aM (hU 3 rfl QbF Qbw Qch Ca A1 (by rfl) (dw rfl) (df (bK Y (aK (aJ 4) bG)) de))
   aW))
   (aM (bU (bK U (aK (aJ 3) bG)))
   aW)))
abbrev CJ:Stmt:=top 48
abbrev Kk:List Str:=["wishes","owns","order","got","rings"]
abbrev Dg:List Str:=["wishes","owns","order"]
theorem Dz:FnScope Kk Dg (aF CJ):=bZ
abbrev U2:FS:=(aG (dg "dict" l5 3 (aI (bI (aI (gv 4) aH) [] lM) aH) updD) aV)
def xQ:FS:=(aG (aR [.sh,.bw,.sh,.sh,.sh] 3 (fun _=>Res.ok (D.dic []))) (aG (qP l5 (bP dy (iw (aI (gv 0) (aI (gv 1) (aI (gv 2) aH))) [] wX)) (bS 4) U2) (fun _=>Out.stuck)))
def xX:List D->Res D:=fun ds=>aT false (xQ (bL Kk.length ds))
theorem QD(T:Txt K mg)(A:DefAtD K mg "by_rings" CJ [Value.none])(U:CalleeX P w K mg base "rounds" Cu [] 7 false [.sh,.bw,.sh] wX)(Y:Callee P w K mg base "got_in" pM [] 1 false [Md.bw] lM):CalleeX P w K mg base "by_rings" Dg [] 8 false [.sh,.bw,.sh] xX:=by
 refine vX (k:=7) (fs:=xQ) (m':=l5) A Dz rfl (fun _ _ _ _ _ _ _ us hl=>by obtain⟨u0,u1,u2,rfl⟩:=qu us hl;exact⟨_,rfl,rfl⟩) fun f cdv A outer s H g E hr=>?_;have BT:=dH hr;have Z:=hr.units;exact(aM (eI 3 Dz.nd (by rfl) (dW rfl) jr)
   (aM (FZ rfl (mG (lF U (hr.mono (by decide)) (bF (v_ 0) (aK (aJ 1) (bF (v_ 2) bG))))) (c8 4 Dz.nd) (aM (hU 3 rfl QbF Qbw Qch Ca A1 (by rfl) (dw rfl) (df (bK Y (aK (aJ 4) bG)) de))
   aW))
   rB))
abbrev nR:Stmt:=iC (top 57) 1
abbrev K3:List Str:=["self","wishes"]
abbrev Dt:List Str:=["self","wishes"]
theorem Vi:FnScope K3 Dt (aF nR):=bZ
def yY:FS:=(aG (aS bO (bI (aI (gv 1) (aI (f1 (gv 0) (dA jU "owns")) (aI (f1 (gv 0) (dA fK "order")) aH))) [] iM)) aV)
def zB:List D->Res D:=fun ds=>aT false (yY (bL K3.length ds))
theorem Tj(T:Txt K mg)(A:MethAt K "ByRings" "sure" "ByRings.sure" nR)(U:Callee P w K mg base "by_rings" pV [] 8 false kt iM)(Y:gD K "order" fK)(Z:gD K "owns" jU):CalleeM P w K mg base "sure" Dt 9 (fun x=>x == "ByRings") [Md.sh] zB:=by
 refine mY (k:=8) (fs:=yY) (m':=bO) A Vi rfl (fun _ _ _ _ _ _ us hl=>by obtain⟨u0,u1,rfl⟩:=gl us hl;kernel_rfl) fun f cdv A outer s H g E hr=>?_;have Cl:=dH hr;have BT:=hr.units;exact(aM (bU (bK U (aK (aJ 1) (aK (bE (i7 Z (aJ 0))) (bF (i7 Y (aJ 0)) bG)))))
   aW)
abbrev xC:Stmt:=top 42
abbrev J7:List Str:=["wishes","order","things","got","hand"]
abbrev n8:List Str:=["wishes","order"]
theorem nj:FnScope J7 n8 (aF xC):=bZ
abbrev Kv:FS:=(aG (putF jB 3 (gv 4) (bI (aI (f2 (gv 0) (gv 4) bY) (aI (gv 2) aH)) [] iF)) (aG (dg "list" jB 2 (aI (f2 (gv 3) (gv 4) bY) aH) remD) aV))
def rO:FS:=(aG (aR l6 2 (fC (aI (bI (aI (gv 0) aH) [] eL) aH) ll)) (aG (aR [.bw,.sh,.ow,.sh,.sh] 3 (fun _=>Res.ok (D.dic []))) (aG (eJ jB (bP dy (bI (aI (gv 0) (aI (gv 1) aH)) [] k4)) (bS 4) Kv) (aG (aS jB (bI (aI (gv 3) aH) [] k7)) aV))))
def h9:List D->Res D:=fun ds=>aT false (rO (bL J7.length ds))
theorem OA(T:Txt K mg)(A:DefAtD K mg "by_order" xC [Value.none])(Y:Callee P w K mg base "things_in" je [] 1 false [Md.bw] eL)(BT:Callee P w K mg base "order_of" rR [] 6 false q0 k4)(Z:Callee P w K mg base "best_left" n0 [] 1 false q0 iF)(U:Callee P w K mg base "dealing_of" oh [] 1 false [Md.bw] k7):Callee P w K mg base "by_order" n8 [] 7 false eO h9:=by
 refine pH (ds:=[]) (k:=6) (fs:=rO) (m':=jB) A nj rfl 2 rfl (fun _ _ _ _ _ _ _ us hl=>by obtain⟨u0,u1,rfl⟩:=gl us hl;exact⟨_,rfl,rfl⟩) fun f cdv A outer s H g E hr=>?_;have Cl:=dH hr;have Id:=hr.units;exact(aM (eI 2 nj.nd (by rfl) (dW rfl) (pI rfl (by rfl) T.b_list (by rfl) T.b_range (cK (bE (bK Y (aK (aJ 0) bG))) cL)))
   (aM (eI 3 nj.nd (by rfl) (dW rfl) jr)
   (aM (jn I_ rfl (mG (bK BT (aK (aJ 0) (aK (aJ 1) bG)))) (c8 4 nj.nd) (aM (j7 3 Cl rfl (by rfl) (dw rfl) (aJ 4) (bK Z (aK (xB Cl (aJ 0) (aJ 4)) (aK (aJ 2) bG))))
   (aM (hU 2 rfl F_ Qbv Qci B9 AR (by rfl) (dw rfl) (df (hJ Cl (aJ 3) (aJ 4)) de))
   aW)))
   (aM (bU (bK U (aK (aJ 3) bG)))
   aW))))
theorem Qn(T:Txt K mg)(A:DefAtD K mg "by_order" xC [Value.none])(Y:Callee P w K mg base "things_in" je [] 1 false [Md.bw] eL)(BT:Callee P w K mg base "order_of" rR [] 6 false q0 k4)(Z:Callee P w K mg base "best_left" n0 [] 1 false q0 iF)(U:Callee P w K mg base "dealing_of" oh [] 1 false [Md.bw] k7):Callee P w K mg base "by_order" n8 [Value.none] 7 false eO h9:=by
 refine pH (ds:=[Value.none]) (k:=6) (fs:=rO) (m':=jB) A nj rfl 1 rfl (fun _ _ _ _ _ _ _ us hl=>by obtain⟨u0,rfl⟩:=mv us hl;exact⟨_,rfl,rfl⟩) fun f cdv A outer s H g E hr=>?_;have Cl:=dH hr;have Id:=hr.units;exact(aM (eI 2 nj.nd (by rfl) (dW rfl) (pI rfl (by rfl) T.b_list (by rfl) T.b_range (cK (bE (bK Y (aK (aJ 0) bG))) cL)))
   (aM (eI 3 nj.nd (by rfl) (dW rfl) jr)
   (aM (jn I_ rfl (mG (bK BT (aK (aJ 0) (aK (aJ 1) bG)))) (c8 4 nj.nd) (aM (j7 3 Cl rfl (by rfl) (dw rfl) (aJ 4) (bK Z (aK (xB Cl (aJ 0) (aJ 4)) (aK (aJ 2) bG))))
   (aM (hU 2 rfl F_ Qbv Qci B9 AR (by rfl) (dw rfl) (df (hJ Cl (aJ 3) (aJ 4)) de))
   aW)))
   (aM (bU (bK U (aK (aJ 3) bG)))
   aW))))
abbrev CI:Stmt:=top 42
abbrev Kj:List Str:=["wishes","order","things","got","hand"]
abbrev Df:List Str:=["wishes","order"]
theorem yE:FnScope Kj Df (aF CI):=bZ
abbrev U1:FS:=(aG (putF jA 3 (gv 4) (bI (aI (f2 (gv 0) (gv 4) bY) (aI (gv 2) aH)) [] iF)) (aG (dg "list" jA 2 (aI (f2 (gv 3) (gv 4) bY) aH) remD) aV))
def xP:FS:=(aG (aR [.sh,.sh,.sh,.sh,.sh] 2 (fC (aI (bI (aI (gv 0) aH) [] eL) aH) ll)) (aG (aR [.sh,.sh,.ow,.sh,.sh] 3 (fun _=>Res.ok (D.dic []))) (aG (qP jA (bP dy (iw (aI (gv 0) (aI (gv 1) aH)) [] pY)) (bS 4) U1) (aG (aS jA (bI (aI (gv 3) aH) [] k7)) aV))))
def xW:List D->Res D:=fun ds=>aT false (xP (bL Kj.length ds))
theorem QC(T:Txt K mg)(A:DefAtD K mg "by_order" CI [Value.none])(Z:Callee P w K mg base "things_in" je [] 1 false [Md.bw] eL)(Y:CalleeX P w K mg base "order_of" yB [] 6 false bO pY)(BT:Callee P w K mg base "best_left" n0 [] 1 false q0 iF)(U:Callee P w K mg base "dealing_of" oh [] 1 false [Md.bw] k7):CalleeX P w K mg base "by_order" Df [] 7 false bO xW:=by
 refine vX (k:=6) (fs:=xP) (m':=jA) A yE rfl (fun _ _ _ _ _ _ _ us hl=>by obtain⟨u0,u1,rfl⟩:=gl us hl;exact⟨_,rfl,rfl⟩) fun f cdv A outer s H g E hr=>?_;have Cl:=dH hr;have Id:=hr.units;exact(aM (eI 2 yE.nd (by rfl) (dW rfl) (pI rfl (by rfl) T.b_list (by rfl) T.b_range (cK (bE (bK Z (aK (aJ 0) bG))) cL)))
   (aM (eI 3 yE.nd (by rfl) (dW rfl) jr)
   (aM (FZ rfl (mG (lF Y (hr.mono (by decide)) (bF (v_ 0) (bF (v_ 1) bG)))) (c8 4 yE.nd) (aM (j7 3 Cl rfl (by rfl) (dw rfl) (aJ 4) (bK BT (aK (xB Cl (aJ 0) (aJ 4)) (aK (aJ 2) bG))))
   (aM (hU 2 rfl F_ Qbv Qci B9 AR (by rfl) (dw rfl) (df (hJ Cl (aJ 3) (aJ 4)) de))
   aW)))
   (aM (bU (bK U (aK (aJ 3) bG)))
   aW))))
abbrev nQ:Stmt:=iC (top 58) 1
abbrev K2:List Str:=["self","wishes"]
abbrev Dx:List Str:=["self","wishes"]
theorem Vh:FnScope K2 Dx (aF nQ):=bZ
def yX:FS:=(aG (aS bO (bI (aI (gv 1) (aI (f1 (gv 0) (dA fK "order")) aH)) [] h9)) aV)
def zA:List D->Res D:=fun ds=>aT false (yX (bL K2.length ds))
theorem Ti(T:Txt K mg)(A:MethAt K "ByOrder" "sure" "ByOrder.sure" nQ)(U:Callee P w K mg base "by_order" n8 [] 7 false eO h9)(Y:gD K "order" fK):CalleeM P w K mg base "sure" Dx 8 (fun x=>x == "ByOrder") [Md.sh] zA:=by
 refine mY (k:=7) (fs:=yX) (m':=bO) A Vh rfl (fun _ _ _ _ _ _ us hl=>by obtain⟨u0,u1,rfl⟩:=gl us hl;kernel_rfl) fun f cdv A outer s H g E hr=>?_;have BT:=dH hr;have Z:=hr.units;exact(aM (bU (bK U (aK (aJ 1) (bF (i7 Y (aJ 0)) bG))))
   aW)
abbrev nL:Stmt:=iC (top 56) 1
abbrev Kg:List Str:=["self","wishes"]
abbrev Dc:List Str:=["self","wishes"]
theorem UQ:FnScope Kg Dc (aF nL):=bZ
def Kt:FS:=(aG (aS bO (fun _=>Res.ok D.non)) aV)
def Dr:List D->Res D:=fun ds=>aT false (Kt (bL Kg.length ds))
theorem Qz(T:Txt K mg)(A:MethAt K "ByLot" "sure" "Rule.sure" nL):CalleeM P w K mg base "sure" Dc 1 (fun x=>x == "ByLot") [Md.sh] Dr:=by
 refine mY (k:=0) (fs:=Kt) (m':=bO) A UQ rfl (fun _ _ _ _ _ _ us hl=>by obtain⟨u0,u1,rfl⟩:=gl us hl;kernel_rfl) fun f cdv A outer s H g E hr=>?_;have Y:=dH hr;have U:=hr.units;exact(aM (bU jo)
   aW)
abbrev nN:Stmt:=iC (top 56) 1
abbrev Ld:List Str:=["self","wishes"]
abbrev DJ:List Str:=["self","wishes"]
theorem Vc:FnScope Ld DJ (aF nN):=bZ
def Lc:FS:=(aG (aS bO (fun _=>Res.ok D.non)) aV)
def DI:List D->Res D:=fun ds=>aT false (Lc (bL Ld.length ds))
theorem TV(T:Txt K mg)(A:MethAt K "ByEating" "sure" "Rule.sure" nN):CalleeM P w K mg base "sure" DJ 1 (fun x=>x == "ByEating") [Md.sh] DI:=by
 refine mY (k:=0) (fs:=Lc) (m':=bO) A Vc rfl (fun _ _ _ _ _ _ us hl=>by obtain⟨u0,u1,rfl⟩:=gl us hl;kernel_rfl) fun f cdv A outer s H g E hr=>?_;have Y:=dH hr;have U:=hr.units;exact(aM (bU jo)
   aW)
abbrev rG:List Str:=["self","wishes"]
abbrev jX:Str->Bool:=(fun nm=>(fun x:Str=>x == "ByRings") nm || (fun nm=>(fun x:Str=>x == "ByOrder") nm || (fun nm=>(fun x:Str=>x == "ByLot") nm || (fun x:Str=>x == "ByEating") nm) nm) nm)
abbrev iA:List D->Res D:=(jN (fun x:Str=>x == "ByRings") zB (jN (fun x:Str=>x == "ByOrder") zA (jN (fun x:Str=>x == "ByLot") Dr DI)))
theorem Nj(Z:CalleeM P w K mg base "sure" Dt 9 (fun x=>x == "ByRings") [Md.sh] zB)(Y:CalleeM P w K mg base "sure" Dx 8 (fun x=>x == "ByOrder") [Md.sh] zA)(BT:CalleeM P w K mg base "sure" Dc 1 (fun x=>x == "ByLot") [Md.sh] Dr)(U:CalleeM P w K mg base "sure" DJ 1 (fun x=>x == "ByEating") [Md.sh] DI):CalleeM P w K mg base "sure" rG 9 jX [Md.sh] iA:=((Z.mono (k:=9) (by decide)).or ((Y.mono (k:=9) (by decide)).or ((BT.mono (k:=9) (by decide)).or (U.mono (k:=9) (by decide)))))
abbrev Lo:Stmt:=iC (top 57) 1
abbrev La:List Str:=["self","wishes"]
abbrev DG:List Str:=["self","wishes"]
theorem Vs:FnScope La DG (aF Lo):=bZ
def yO:FS:=(aG (aS bO (iw (aI (gv 1) (aI (f1 (gv 0) (dA jU "owns")) (aI (f1 (gv 0) (dA fK "order")) aH))) [] xX)) aV)
def yT:List D->Res D:=fun ds=>aT false (yO (bL La.length ds))
theorem TD(T:Txt K mg)(A:MethAt K "ByRings" "sure" "ByRings.sure" Lo)(U:CalleeX P w K mg base "by_rings" Dg [] 8 false [.sh,.bw,.sh] xX)(Y:gD K "order" fK)(Z:gD K "owns" jU):CalleeMX P w K mg base "sure" DG 9 (fun x=>x == "ByRings") [Md.sh] yT:=by
 refine pP (k:=8) (fs:=yO) (m':=bO) A Vs rfl (fun _ _ _ _ _ _ us hl=>by obtain⟨u0,u1,rfl⟩:=gl us hl;kernel_rfl) fun f cdv A outer s H g E hr=>?_;have Cl:=dH hr;have BT:=hr.units;exact(aM (bU (lF U (hr.mono (by decide)) (bF (v_ 1) (aK (bE (i7 Z (aJ 0))) (bF (i7 Y (aJ 0)) bG)))))
   aW)
abbrev Ln:Stmt:=iC (top 58) 1
abbrev K8:List Str:=["self","wishes"]
abbrev DE:List Str:=["self","wishes"]
theorem Vq:FnScope K8 DE (aF Ln):=bZ
def yM:FS:=(aG (aS bO (iw (aI (gv 1) (aI (f1 (gv 0) (dA fK "order")) aH)) [] xW)) aV)
def yR:List D->Res D:=fun ds=>aT false (yM (bL K8.length ds))
theorem TB(T:Txt K mg)(A:MethAt K "ByOrder" "sure" "ByOrder.sure" Ln)(U:CalleeX P w K mg base "by_order" Df [] 7 false bO xW)(Y:gD K "order" fK):CalleeMX P w K mg base "sure" DE 8 (fun x=>x == "ByOrder") [Md.sh] yR:=by
 refine pP (k:=7) (fs:=yM) (m':=bO) A Vq rfl (fun _ _ _ _ _ _ us hl=>by obtain⟨u0,u1,rfl⟩:=gl us hl;kernel_rfl) fun f cdv A outer s H g E hr=>?_;have BT:=dH hr;have Z:=hr.units;exact(aM (bU (lF U (hr.mono (by decide)) (bF (v_ 1) (bF (i7 Y (aJ 0)) bG))))
   aW)
abbrev wM:List Str:=["self","wishes"]
abbrev lK:Str->Bool:=(fun nm=>(fun x:Str=>x == "ByRings") nm || (fun x:Str=>x == "ByOrder") nm)
abbrev ke:List D->Res D:=(jN (fun x:Str=>x == "ByRings") yT yR)
theorem NW(U:CalleeMX P w K mg base "sure" DG 9 (fun x=>x == "ByRings") [Md.sh] yT)(Y:CalleeMX P w K mg base "sure" DE 8 (fun x=>x == "ByOrder") [Md.sh] yR):CalleeMX P w K mg base "sure" wM 9 lK [Md.sh] ke:=((U.mono (k:=9) (by decide)).or (Y.mono (k:=9) (by decide)))
abbrev DK:Stmt:=top 26
abbrev Li:List Str:=["one","other","rest"]
abbrev DV:List Str:=["one","other"]
theorem zF:FnScope Li DV (aF DK):=bZ
abbrev sC:FQ:=(bW (f2 (gv 1) (ci 0) neD))
abbrev sB:FS:=(aG (aR ee 2 (f2 (gv 0) (gv 1) cQ)) (aG (aR ee 0 (gv 1)) (aG (aR ee 1 (gv 2)) aV)))
def DS:FS:=(aG (gp ee sC sB 1000) (aG (aS ee (fC (aI (gv 0) aH) absD)) aV))
def zM:List D->Res D:=fun ds=>aT false (DS (bL Li.length ds))
theorem Ur(T:Txt K mg)(A:DefAt K mg "greatest_divisor" DK):Callee P w K mg base "greatest_divisor" DV [] 1 false bO zM:=
 du (m':=ee) A zF fun f cdv A outer s H g E hr Y=>have U:=hr.units;(aM (vF 1000 I_ (dP U (aJ 1) iB) (aM (cZ 2 zF.nd (iy (aJ 0) (aJ 1)))
   (aM (cZ 0 zF.nd (v_ 1))
   (aM (cZ 1 zF.nd (v_ 2))
   aW))))
   (aM (bU (VY (by rfl) T.b_abs (cK (aJ 0) cL)))
   aW))
abbrev BZ:Stmt:=top 27
abbrev JL:List Str:=["top","bottom","divisor"]
abbrev nc:List Str:=["top","bottom"]
theorem CV:FnScope JL nc (aF BZ):=bZ
def Ck:FS:=(aG (dj ee (gJ (dF (c6 (bI (aI (gv 0) aH) [] nb))) (gJ (dF (c6 (bI (aI (gv 1) aH) [] nb))) (bW (f2 (gv 1) (ci 0) eqD)))) (aG (fun _=>Out.stuck) aV) aV) (aG (aR ee 2 (bI (aI (gv 0) (aI (gv 1) aH)) [] zM)) (aG (dj ee (bW (f2 (gv 1) (ci 0) jh)) (aG (aR ee 2 (f1 (gv 2) tj)) aV) aV) (aG (aS ee (lb (aI (f2 (gv 0) (gv 2) qv) (aI (f2 (gv 1) (gv 2) qv) aH)))) aV))))
def ic:List D->Res D:=fun ds=>aT false (Ck (bL JL.length ds))
theorem OF(T:Txt K mg)(A:DefAt K mg "fraction" BZ)(Y:Callee P w K mg base "is_whole" wZ [] 1 false [Md.bw] nb)(U:Callee P w K mg base "greatest_divisor" DV [] 1 false bO zM):Callee P w K mg base "fraction" nc [] 2 false bO ic:=
 du (m':=ee) A CV fun f cdv A outer s H g E hr BT=>have Z:=hr.units;(aM (bX (SW.toQ (d9 (i9 (gG (bE (bK Y (aK (aJ 0) bG))))) (d9 (i9 (gG (bE (bK Y (aK (aJ 1) bG))))) (my (jz Z (aJ 1) iB))))) (aM vE
   aW)
   aW)
   (aM (cZ 2 CV.nd (bK U (bF (v_ 0) (bF (v_ 1) bG))))
   (aM (bX (lZ (aJ 1) iB) (aM (cZ 2 CV.nd (VZ (aJ 2)))
   aW)
   aW)
   (aM (bU (nB (df (Hw (aJ 0) (aJ 2)) (df (Hw (aJ 1) (aJ 2)) de))))
   aW))))
abbrev nY:Stmt:=top 53
abbrev p6:List Str:=["dealings","things","table","hand","got"]
abbrev n5:List Str:=["dealings","things"]
theorem p0:FnScope p6 n5 (aF nY):=bZ
abbrev KL:FS:=(aG (aR fU 4 (eF 1 [3] (bP dy (gv 0)) (bS 0) (fun _=>Res.ok true) (f2 (gv 0) (gv 1) bY))) (aG (dg "list" fU 2 (aI (fC (aI (eF 1 [0,4] (dX dO (aI (gv 1) aH)) (bS 0) (fun _=>Res.ok true) (bI (aI (fM "list" (gv 2) (aI (gv 0) aH) nJ) (aI (fC (aI (gv 1) aH) lenD) aH)) [] ic)) aH) tupD) aH) appD) aV))
def C2:FS:=(aG (aR oM 2 (fW aH)) (aG (eJ fU (dX dO (aI (fC (aI (f2 (gv 0) (ci 0) bY) aH) lenD) aH)) (bS 3) KL) (aG (aS fU (fC (aI (gv 2) aH) tupD)) aV)))
def jv:List D->Res D:=fun ds=>aT false (C2 (bL p6.length ds))
theorem Qs(T:Txt K mg)(A:DefAt K mg "shares_in" nY)(U:Callee P w K mg base "fraction" nc [] 2 false bO ic):Callee P w K mg base "shares_in" n5 [] 3 false q0 jv:=
 du (m':=fU) A p0 fun f cdv A outer s H g E hr Y=>(aM (eI 2 p0.nd (by rfl) (dW rfl) (g6 de))
   (aM (jn I_ rfl (j3 (by rfl) T.b_range (cK (bE (gm (by rfl) T.b_len (cK (xB Y (aJ 0) iB) cL))) cL)) (c8 3 p0.nd) (aM (cZ 4 p0.nd (SO.toE (jQ (X:=(cw dm P w K mg base p6 "shares_in" (aF nY) f cdv A outer s H E).nox) (N':=["dealing","hand"]) (nl:=1) (cap:=[3]) p0.nd rfl (hZ (osc:=(aF nY)) (ON:=p6) rfl rfl (by decide+kernel)) (jq (aJ 0)) (fun _ _ _ _ _ _=>(c8 0 (show QaG (["dealing","hand"]:List Str)by decide+kernel))) (hW (by decide)) (fun _ _ _ _ _ _=>jS) (fun _ _ _ _ _ _=>(hJ Y (aJ 0) (aJ 1))))))
   (aM (hU 2 rfl F_ Qad Qae kg kR (by rfl) (dw rfl) (df (jd (by rfl) T.b_tuple (cK (SO.toB (jQ (X:=(cw dm P w K mg base p6 "shares_in" (aF nY) f cdv A outer s H E).nox) (N':=["thing","dealings","got"]) (nl:=1) (cap:=[0,4]) p0.nd rfl (hZ (osc:=(aF nY)) (ON:=p6) rfl rfl (by decide+kernel)) (kD.toC (j3 (by rfl) T.b_range (cK (aJ 1) cL))) (fun _ _ _ _ _ _=>(c8 0 (show QaG (["thing","dealings","got"]:List Str)by decide+kernel))) (hW (by decide)) (fun _ _ _ _ _ _=>jS) (fun _ _ _ _ _ _=>(bK U (bF (oy F_ QbG Qcx B8 Ce (aJ 2) (cK (aJ 0) cL)) (bF (gm (by rfl) T.b_len (cK (aJ 1) cL)) bG)))))) cL)) de))
   aW)))
   (aM (bU (jd (by rfl) T.b_tuple (cK (aJ 2) cL)))
   aW)))
abbrev nT:Stmt:=iC (top 56) 0
abbrev K9:List Str:=["self","wishes"]
abbrev DF:List Str:=["self","wishes"]
theorem Vr:FnScope K9 DF (aF nT):=bZ
def yN:FS:=(aG (aS bO (bI (aI (fW (aI (iK jX "sure" (gv 0) (aI (gv 1) aH) iA) aH)) (aI (bI (aI (gv 1) aH) [] eL) aH)) [] jv)) aV)
def yS:List D->Res D:=fun ds=>aT false (yN (bL K9.length ds))
theorem TC(T:Txt K mg)(A:MethAt K "ByRings" "shares" "Rule.shares" nT)(U:Callee P w K mg base "things_in" je [] 1 false [Md.bw] eL)(Z:CalleeM P w K mg base "sure" rG 9 jX [Md.sh] iA)(Y:Callee P w K mg base "shares_in" n5 [] 3 false q0 jv):CalleeM P w K mg base "shares" DF 10 (fun x=>x == "ByRings") [Md.sh] yS:=by
 refine mY (k:=9) (fs:=yN) (m':=bO) A Vr rfl (fun _ _ _ _ _ _ us hl=>by obtain⟨u0,u1,rfl⟩:=gl us hl;kernel_rfl) fun f cdv A outer s H g E hr=>?_;have Cl:=dH hr;have BT:=hr.units;exact(aM (bU (bK Y (aK (SO.toB (g6 (df (j8 Z (hr.mono (by decide)) (v_ 0) (bF (v_ 1) bG)) de))) (aK (bE (bK U (aK (aJ 1) bG))) bG))))
   aW)
abbrev nS:Stmt:=iC (top 56) 0
abbrev K7:List Str:=["self","wishes"]
abbrev DC:List Str:=["self","wishes"]
theorem Vp:FnScope K7 DC (aF nS):=bZ
def yL:FS:=(aG (aS bO (bI (aI (fW (aI (iK jX "sure" (gv 0) (aI (gv 1) aH) iA) aH)) (aI (bI (aI (gv 1) aH) [] eL) aH)) [] jv)) aV)
def yQ:List D->Res D:=fun ds=>aT false (yL (bL K7.length ds))
theorem Tz(T:Txt K mg)(A:MethAt K "ByOrder" "shares" "Rule.shares" nS)(U:Callee P w K mg base "things_in" je [] 1 false [Md.bw] eL)(Z:CalleeM P w K mg base "sure" rG 9 jX [Md.sh] iA)(Y:Callee P w K mg base "shares_in" n5 [] 3 false q0 jv):CalleeM P w K mg base "shares" DC 10 (fun x=>x == "ByOrder") [Md.sh] yQ:=by
 refine mY (k:=9) (fs:=yL) (m':=bO) A Vp rfl (fun _ _ _ _ _ _ us hl=>by obtain⟨u0,u1,rfl⟩:=gl us hl;kernel_rfl) fun f cdv A outer s H g E hr=>?_;have Cl:=dH hr;have BT:=hr.units;exact(aM (bU (bK Y (aK (SO.toB (g6 (df (j8 Z (hr.mono (by decide)) (v_ 0) (bF (v_ 1) bG)) de))) (aK (bE (bK U (aK (aJ 1) bG))) bG))))
   aW)
abbrev D3:Stmt:=top 51
abbrev Lz:List Str:=["wishes"]
abbrev D2:List Str:=["wishes"]
theorem Vz:FnScope Lz D2 (aF D3):=bZ
def zU:FS:=(aG (dj [Md.bw] (bW (f2 (fC (aI (gv 0) aH) lenD) (ci 5) jj)) (aG (fun _=>Out.stuck) aV) aV) aV)
def zV:List D->Res D:=fun ds=>aT false (zU (bL Lz.length ds))
theorem Vf(T:Txt K mg)(A:DefAt K mg "refuse_too_many_for_lots" D3):Callee P w K mg base "refuse_too_many_for_lots" D2 [] 1 false [Md.bw] zV:=
 du (m':=[Md.bw]) A Vz fun f cdv A outer s H g E hr U=>(aM (bX (jy (bE (gm (by rfl) T.b_len (cK (aJ 0) cL))) (bE (Hx (by rfl) T.k_MOST_HANDS_IN_LOTS))) (aM vE
   aW)
   aW)
   aW)
abbrev D5:Stmt:=top 51
abbrev Lx:List Str:=["wishes"]
abbrev D8:List Str:=["wishes"]
theorem Vy:FnScope Lx D8 (aF D5):=bZ
def zW:FS:=(aG (dj [Md.bw] (bW (f2 (fC (aI (gv 0) aH) lenD) (ci 5) jj)) (aG (kj [Md.bw] "TooMany" (aI (fun _=>Res.ok (D.str "there must be at most five hands")) aH)) aV) aV) aV)
def D7:List D->Res D:=fun ds=>aT false (zW (bL Lx.length ds))
theorem Vb(T:Txt K mg)(A:DefAt K mg "refuse_too_many_for_lots" D5){U:Addr}(Y:XC K mg "TooMany" U)(Z:XN K "TooMany" U):CalleeX P w K mg base "refuse_too_many_for_lots" D8 [] 1 false [Md.bw] D7:=by
 refine uZ (k:=0) (fs:=zW) (m':=[Md.bw]) A Vy rfl (fun _ _ _ _ _ _ us hl=>by obtain⟨u0,rfl⟩:=mv us hl;kernel_rfl) fun f cdv A outer s H g E hr=>?_;have Cl:=dH hr;have BT:=hr.units;exact(aM (bX (jy (bE (gm (by rfl) T.b_len (cK (aJ 0) cL))) (bE (Hx (by rfl) T.k_MOST_HANDS_IN_LOTS))) (aM (HU rfl Y Z (by rfl) (df kM de))
   aW)
   aW)
   aW)
abbrev CG:Stmt:=top 52
abbrev Kh:List Str:=["many","orders","number","longer","order","place"]
abbrev Dd:List Str:=["many"]
theorem oa:FnScope Kh Dd (aF CG):=bZ
abbrev KW:FS:=(aG (dg "list" oJ 3 (aI (f2 (f2 (oR (gv 4) (fun _=>Res.ok none) (pq (gv 5))) (fW (aI (gv 2) aH)) addE) (oR (gv 4) (pq (gv 5)) (fun _=>Res.ok none)) addE) aH) appD) aV)
abbrev KY:FS:=(aG (eJ oJ (dX dO (aI (f2 (gv 2) (ci 1) addA) aH)) (bS 5) KW) aV)
abbrev KZ:FS:=(aG (aR gU 3 (fW aH)) (aG (eJ oJ (bP dy (gv 1)) (bS 4) KY) (aG (aR gU 1 (gv 3)) aV)))
def Dm:FS:=(aG (aR gU 1 (fW (aI (fW aH) aH))) (aG (eJ gU (dX dO (aI (gv 0) aH)) (bS 2) KZ) (aG (aS gU (gv 1)) aV)))
def rX:List D->Res D:=fun ds=>aT false (Dm (bL Kh.length ds))
theorem QA(T:Txt K mg)(A:DefAt K mg "all_orders" CG):Callee P w K mg base "all_orders" Dd [] 1 false [Md.bw] rX:=
 du (m':=gU) A oa fun f cdv A outer s H g E hr U=>(aM (cZ 1 oa.nd (SO.toE (g6 (df (SO.toE (g6 de)) de))))
   (aM (jn I_ rfl (j3 (by rfl) T.b_range (cK (aJ 0) cL)) (c8 2 oa.nd) (aM (eI 3 oa.nd (by rfl) (dW rfl) (g6 de))
   (aM (jn I_ rfl (mG (v_ 1)) (c8 4 oa.nd) (aM (jn I_ rfl (j3 (by rfl) T.b_range (cK (bE (jb (aJ 2) iB)) cL)) (c8 5 oa.nd) (aM (hU 3 rfl F_ Qad Qae kg kR (by rfl) (dw rfl) (df (FV (bE (FV (bE (At (aJ 4) AS (AT (aJ 5)))) (SO.toB (g6 (df (v_ 2) de))))) (bE (At (aJ 4) (AT (aJ 5)) AS))) de))
   aW))
   aW))
   (aM (mK 3 rfl (cZ 1 oa.nd (v_ 3)))
   aW))))
   (aM (bU (v_ 1))
   aW)))
abbrev qL:Stmt:=top 54
abbrev t8:List Str:=["wishes","dealings"]
abbrev uA:List Str:=["wishes"]
theorem F0:FnScope t8 uA (aF qL):=bZ
def Ah:FS:=(aG (jl eO (bI (aI (gv 0) aH) [] zV)) (aG (aR eO 1 (eF 1 [0] (bP dy (bI (aI (fC (aI (gv 0) aH) lenD) aH) [] rX)) (bS 0) (fun _=>Res.ok true) (bI (aI (gv 1) (aI (gv 0) aH)) [] h9))) (aG (aS [.bw,.ow] (bI (aI (gv 1) (aI (bI (aI (gv 0) aH) [] eL) aH)) [] jv)) aV)))
def ph:List D->Res D:=fun ds=>aT false (Ah (bL t8.length ds))
theorem Ww(T:Txt K mg)(A:DefAt K mg "lot" qL)(U:Callee P w K mg base "refuse_too_many_for_lots" D2 [] 1 false [Md.bw] zV)(Y:Callee P w K mg base "all_orders" Dd [] 1 false [Md.bw] rX)(Cl:Callee P w K mg base "by_order" n8 [] 7 false eO h9)(Z:Callee P w K mg base "things_in" je [] 1 false [Md.bw] eL)(BT:Callee P w K mg base "shares_in" n5 [] 3 false q0 jv):Callee P w K mg base "lot" uA [] 8 false [Md.bw] ph:=
 du (m':=[.bw,.ow]) A F0 fun f cdv A outer s H g E hr Id=>(aM (pC (bK U (aK (aJ 0) bG)))
   (aM (rM 1 (X:=(cw dm P w K mg base t8 "lot" (aF qL) f cdv A outer s H E).nox) (m:=eO) (N':=["order","wishes"]) (nl:=1) (cap:=[0]) F0.nd rfl (by rfl) (by rfl) (hZ (osc:=(aF qL)) (ON:=t8) rfl rfl (by decide+kernel)) (jq (bE (bK Y (aK (bE (gm (by rfl) T.b_len (cK (aJ 0) cL))) bG)))) (fun _ _ _ _ _ _=>(c8 0 (show QaG (["order","wishes"]:List Str)by decide+kernel))) (hW (by decide)) (fun _ _ _ _ _ _=>jS) (fun _ _ _ _ _ _=>(bK Cl (aK (aJ 1) (bF (v_ 0) bG)))))
   (aM (bU (bK BT (aK (aJ 1) (aK (bE (bK Z (aK (aJ 0) bG))) bG))))
   aW)))
abbrev Bz:Stmt:=top 54
abbrev Gz:List Str:=["wishes","dealings"]
abbrev Bl:List Str:=["wishes"]
theorem RU:FnScope Gz Bl (aF Bz):=bZ
def vI:FS:=(aG (jl eO (iw (aI (gv 0) aH) [] D7)) (fun _=>Out.stuck))
def Bj:List D->Res D:=fun ds=>aT false (vI (bL Gz.length ds))
theorem Mj(T:Txt K mg)(A:DefAt K mg "lot" Bz)(U:CalleeX P w K mg base "refuse_too_many_for_lots" D8 [] 1 false [Md.bw] D7):CalleeX P w K mg base "lot" Bl [] 2 false [Md.bw] Bj:=by
 refine uZ (k:=1) (fs:=vI) (m':=eO) A RU rfl (fun _ _ _ _ _ _ us hl=>by obtain⟨u0,rfl⟩:=mv us hl;kernel_rfl) fun f cdv A outer s H g E hr=>?_;have Z:=dH hr;have Y:=hr.units;exact(aM (pC (lF U (hr.mono (by decide)) (aK (aJ 0) bG)))
   rB)
abbrev nP:Stmt:=iC (top 59) 0
abbrev K1:List Str:=["self","wishes"]
abbrev Dw:List Str:=["self","wishes"]
theorem Vg:FnScope K1 Dw (aF nP):=bZ
def yW:FS:=(aG (aS bO (bI (aI (gv 1) aH) [] ph)) aV)
def yZ:List D->Res D:=fun ds=>aT false (yW (bL K1.length ds))
theorem Th(T:Txt K mg)(A:MethAt K "ByLot" "shares" "ByLot.shares" nP)(U:Callee P w K mg base "lot" uA [] 8 false [Md.bw] ph):CalleeM P w K mg base "shares" Dw 9 (fun x=>x == "ByLot") [Md.sh] yZ:=by
 refine mY (k:=8) (fs:=yW) (m':=bO) A Vg rfl (fun _ _ _ _ _ _ us hl=>by obtain⟨u0,u1,rfl⟩:=gl us hl;kernel_rfl) fun f cdv A outer s H g E hr=>?_;have Z:=dH hr;have Y:=hr.units;exact(aM (bU (bK U (aK (aJ 1) bG)))
   aW)
abbrev CC:Stmt:=top 15
abbrev JF:List Str:=["wishes"]
abbrev xN:List Str:=["wishes"]
theorem UZ:FnScope JF xN (aF CC):=bZ
def se:FS:=(aG (aS [Md.bw] (f2 (bI (aI (gv 0) aH) [] eL) (fC (aI (gv 0) aH) lenD) eqD)) aV)
def nZ:List D->Res D:=fun ds=>aT false (se (bL JF.length ds))
theorem Qp(T:Txt K mg)(A:DefAt K mg "is_square" CC)(U:Callee P w K mg base "things_in" je [] 1 false [Md.bw] eL):Callee P w K mg base "is_square" xN [] 2 false [Md.bw] nZ:=
 du (m':=[Md.bw]) A UZ fun f cdv A outer s H g E hr Z=>have Y:=hr.units;(aM (bU (gT Y (bE (bK U (aK (aJ 0) bG))) (bE (gm (by rfl) T.b_len (cK (aJ 0) cL)))))
   aW)
abbrev DN:Stmt:=top 16
abbrev Lw:List Str:=["wishes"]
abbrev D4:List Str:=["wishes"]
theorem Vx:FnScope Lw D4 (aF DN):=bZ
def zG:FS:=(aG (dj [Md.bw] (dF (c6 (bI (aI (gv 0) aH) [] nZ))) (aG (fun _=>Out.stuck) aV) aV) aV)
def zH:List D->Res D:=fun ds=>aT false (zG (bL Lw.length ds))
theorem UP(T:Txt K mg)(A:DefAt K mg "refuse_unless_square" DN)(U:Callee P w K mg base "is_square" xN [] 2 false [Md.bw] nZ):Callee P w K mg base "refuse_unless_square" D4 [] 3 false [Md.bw] zH:=
 du (m':=[Md.bw]) A Vx fun f cdv A outer s H g E hr Y=>(aM (bX (i9 (gG (bE (bK U (aK (aJ 0) bG))))) (aM vE
   aW)
   aW)
   aW)
abbrev D6:Stmt:=top 16
abbrev Lv:List Str:=["wishes"]
abbrev DY:List Str:=["wishes"]
theorem Vw:FnScope Lv DY (aF D6):=bZ
def zR:FS:=(aG (dj [Md.bw] (dF (c6 (bI (aI (gv 0) aH) [] nZ))) (aG (kj [Md.bw] "NotSquare" (aI (fun _=>Res.ok (D.str "there must be as many things as hands")) aH)) aV) aV) aV)
def DX:List D->Res D:=fun ds=>aT false (zR (bL Lv.length ds))
theorem U7(T:Txt K mg)(A:DefAt K mg "refuse_unless_square" D6)(BT:Callee P w K mg base "is_square" xN [] 2 false [Md.bw] nZ){U:Addr}(Z:XC K mg "NotSquare" U)(Y:XN K "NotSquare" U):CalleeX P w K mg base "refuse_unless_square" DY [] 3 false [Md.bw] DX:=by
 refine uZ (k:=2) (fs:=zR) (m':=[Md.bw]) A Vw rfl (fun _ _ _ _ _ _ us hl=>by obtain⟨u0,rfl⟩:=mv us hl;kernel_rfl) fun f cdv A outer s H g E hr=>?_;have Id:=dH hr;have Cl:=hr.units;exact(aM (bX (i9 (gG (bE (bK BT (aK (aJ 0) bG))))) (aM (HU rfl Z Y (by rfl) (df kM de))
   aW)
   aW)
   aW)
abbrev A4:Stmt:=top 31
abbrev Go:List Str:=["a","b"]
abbrev AI:List Str:=["a","b"]
theorem Pk:FnScope Go AI (aF A4):=bZ
def AG:FS:=(aG (aS q0 (f2 (f2 (f2 (gv 0) (ci 0) bY) (f2 (gv 1) (ci 1) bY) eR) (f2 (f2 (gv 1) (ci 0) bY) (f2 (gv 0) (ci 1) bY) eR) jh)) aV)
def q9:List D->Res D:=fun ds=>aT false (AG (bL Go.length ds))
theorem VL(T:Txt K mg)(A:DefAt K mg "less" A4):Callee P w K mg base "less" AI [] 1 false q0 q9:=
 du (m':=q0) A Pk fun f cdv A outer s H g E hr U=>(aM (bU (ox (bE (kQ (xB U (aJ 0) iB) (xB U (aJ 1) iB))) (bE (kQ (xB U (aJ 1) iB) (xB U (aJ 0) iB)))))
   aW)
abbrev By:Stmt:=top 32
abbrev Gy:List Str:=["shares","told","share"]
abbrev Bk:List Str:=["shares"]
theorem wF:FnScope Gy Bk (aF By):=bZ
abbrev Jq:FS:=(aG (dj eN (c6 (bI (aI (gv 2) (aI (gv 1) aH)) [] q9)) (aG (aR eN 1 (gv 2)) aV) aV) aV)
def Bg:FS:=(aG (aR eN 1 (f2 (gv 0) (ci 0) bY)) (aG (eJ eN (bP dy (gv 0)) (bS 2) Jq) (aG (aS eN (gv 1)) aV)))
def vJ:List D->Res D:=fun ds=>aT false (Bg (bL Gy.length ds))
theorem Mi(T:Txt K mg)(A:DefAt K mg "least" By)(U:Callee P w K mg base "less" AI [] 1 false q0 q9):Callee P w K mg base "least" Bk [] 2 false [Md.bw] vJ:=
 du (m':=eN) A wF fun f cdv A outer s H g E hr Y=>(aM (cZ 1 wF.nd (hJ Y (aJ 0) iB))
   (aM (FX I_ rfl (jq (aJ 0)) (fun _=>(c8 2 wF.nd)) (fun _=>(aM (bX (gG (bE (bK U (aK (aJ 2) (aK (aJ 1) bG))))) (aM (cZ 1 wF.nd (v_ 2))
   aW)
   aW)
   aW)))
   (aM (bU (v_ 1))
   aW)))
abbrev BB:Stmt:=top 30
abbrev GB:List Str:=["a","b"]
abbrev vM:List Str:=["a","b"]
theorem RY:FnScope GB vM (aF BB):=bZ
def Bi:FS:=(aG (aS q0 (bI (aI (f2 (f2 (gv 0) (ci 0) bY) (f2 (gv 1) (ci 0) bY) eR) (aI (f2 (f2 (gv 0) (ci 1) bY) (f2 (gv 1) (ci 1) bY) eR) aH)) [] ic)) aV)
def lD:List D->Res D:=fun ds=>aT false (Bi (bL GB.length ds))
theorem Mm(T:Txt K mg)(A:DefAt K mg "times" BB)(U:Callee P w K mg base "fraction" nc [] 2 false bO ic):Callee P w K mg base "times" vM [] 3 false q0 lD:=
 du (m':=q0) A RY fun f cdv A outer s H g E hr Y=>(aM (bU (bK U (bF (kQ (xB Y (aJ 0) iB) (xB Y (aJ 1) iB)) (bF (kQ (xB Y (aJ 0) iB) (xB Y (aJ 1) iB)) bG))))
   aW)
abbrev sD:Stmt:=top 34
abbrev zT:List Str:=["left","targets"]
abbrev DZ:List Str:=["left","targets"]
theorem Ly:FnScope zT DZ (aF sD):=bZ
def DW:FS:=(aG (aS q0 (bI (aI (eF 1 [0,1] (bP dy (gv 1)) (bS 0) (fun _=>Res.ok true) (bI (aI (f2 (gv 1) (gv 0) bY) (aI (bI (aI (ci 1) (aI (fM "list" (gv 2) (aI (gv 0) aH) nJ) aH)) [] ic) aH)) [] lD)) aH) [] vJ)) aV)
def zS:List D->Res D:=fun ds=>aT false (DW (bL zT.length ds))
theorem U8(T:Txt K mg)(A:DefAt K mg "time_until_one_is_gone" sD)(U:Callee P w K mg base "fraction" nc [] 2 false bO ic)(Z:Callee P w K mg base "times" vM [] 3 false q0 lD)(Y:Callee P w K mg base "least" Bk [] 2 false [Md.bw] vJ):Callee P w K mg base "time_until_one_is_gone" DZ [] 4 false q0 zS:=
 du (m':=q0) A Ly fun f cdv A outer s H g E hr BT=>(aM (bU (bK Y (aK (SO.toB (jQ (X:=(cw dm P w K mg base zT "time_until_one_is_gone" (aF sD) f cdv A outer s H E).nox) (N':=["thing","left","targets"]) (nl:=1) (cap:=[0,1]) Ly.nd rfl (hZ (osc:=(aF sD)) (ON:=zT) rfl rfl (by decide+kernel)) (jq (aJ 1)) (fun _ _ _ _ _ _=>(c8 0 (show QaG (["thing","left","targets"]:List Str)by decide+kernel))) (hW (by decide)) (fun _ _ _ _ _ _=>jS) (fun _ _ _ _ _ _=>(bK Z (aK (xB BT (aJ 1) (aJ 0)) (aK (bE (bK U (bF nA (bF (oy F_ QbG Qcx B8 Ce (aJ 2) (cK (aJ 0) cL)) bG)))) bG)))))) bG)))
   aW)
abbrev BA:Stmt:=top 29
abbrev GA:List Str:=["a","b"]
abbrev Bm:List Str:=["a","b"]
theorem RX:FnScope GA Bm (aF BA):=bZ
def Bh:FS:=(aG (aS q0 (bI (aI (f2 (f2 (f2 (gv 0) (ci 0) bY) (f2 (gv 1) (ci 1) bY) eR) (f2 (f2 (gv 1) (ci 0) bY) (f2 (gv 0) (ci 1) bY) eR) iP) (aI (f2 (f2 (gv 0) (ci 1) bY) (f2 (gv 1) (ci 1) bY) eR) aH)) [] ic)) aV)
def rc:List D->Res D:=fun ds=>aT false (Bh (bL GA.length ds))
theorem Ml(T:Txt K mg)(A:DefAt K mg "minus" BA)(Y:Callee P w K mg base "fraction" nc [] 2 false bO ic):Callee P w K mg base "minus" Bm [] 3 false q0 rc:=
 du (m':=q0) A RX fun f cdv A outer s H g E hr U=>(aM (bU (bK Y (bF (Au (bE (kQ (xB U (aJ 0) iB) (xB U (aJ 1) iB))) (bE (kQ (xB U (aJ 1) iB) (xB U (aJ 0) iB)))) (bF (kQ (xB U (aJ 0) iB) (xB U (aJ 1) iB)) bG))))
   aW)
abbrev CK:Stmt:=top 35
abbrev Kl:List Str:=["left","targets","span","after","thing","bites"]
abbrev Dh:List Str:=["left","targets","span"]
theorem yF:FnScope Kl Dh (aF CK):=bZ
abbrev K0:FS:=(aG (aR eQ 5 (bI (aI (fM "list" (gv 1) (aI (gv 4) aH) nJ) (aI (ci 1) aH)) [] ic)) (aG (putF eQ 3 (gv 4) (bI (aI (f2 (gv 0) (gv 4) bY) (aI (bI (aI (gv 5) (aI (gv 2) aH)) [] lD) aH)) [] rc)) aV))
def Dp:FS:=(aG (aR l7 3 (fun _=>Res.ok (D.dic []))) (aG (eJ eQ (bP lx (gv 0)) (bS 4) K0) (aG (aS l7 (gv 3)) aV)))
def xY:List D->Res D:=fun ds=>aT false (Dp (bL Kl.length ds))
theorem QE(T:Txt K mg)(A:DefAt K mg "left_after" CK)(U:Callee P w K mg base "fraction" nc [] 2 false bO ic)(Z:Callee P w K mg base "times" vM [] 3 false q0 lD)(Y:Callee P w K mg base "minus" Bm [] 3 false q0 rc):Callee P w K mg base "left_after" Dh [] 4 false ij xY:=
 du (m':=l7) A yF fun f cdv A outer s H g E hr BT=>(aM (eI 3 yF.nd (by rfl) (dW rfl) jr)
   (aM (FY I_ rfl (v_ 0) (fun _=>(c8 4 yF.nd)) (fun _=>(aM (cZ 5 yF.nd (bK U (bF (oy F_ QbG Qcx B8 Ce (aJ 1) (cK (aJ 4) cL)) (bF nA bG))))
   (aM (j7 3 BT rfl (by rfl) (dw rfl) (aJ 4) (bK Y (aK (xB BT (aJ 0) (aJ 4)) (aK (bE (bK Z (aK (aJ 5) (aK (aJ 2) bG)))) bG))))
   aW))))
   (aM (mK 3 rfl (bU (v_ 3)))
   aW)))
abbrev B2:Stmt:=top 36
abbrev JO:List Str:=["left","told","thing"]
abbrev Ct:List Str:=["left"]
theorem CW:FnScope JO Ct (aF B2):=bZ
abbrev Kz:FS:=(aG (dj kr (bW (f2 (f2 (gv 0) (gv 2) bY) (fun _=>Res.ok (D.tup [D.int 0,D.int 1])) neD)) (aG (putF kr 1 (gv 2) (f2 (gv 0) (gv 2) bY)) aV) aV) aV)
def Co:FS:=(aG (aR ee 1 (fun _=>Res.ok (D.dic []))) (aG (eJ kr (bP lx (gv 0)) (bS 2) Kz) (aG (aS kr (gv 1)) aV)))
def wW:List D->Res D:=fun ds=>aT true (Co (bL JO.length ds))
theorem OJ(T:Txt K mg)(A:DefAt K mg "not_gone" B2):Callee P w K mg base "not_gone" Ct [] 1 true [Md.sh] wW:=
 du (m':=kr) A CW fun f cdv A outer s H g E hr U=>have Y:=hr.units;(aM (eI 1 CW.nd (by rfl) (dW rfl) jr)
   (aM (FY I_ rfl (v_ 0) (fun _=>(c8 2 CW.nd)) (fun _=>(aM (bX (dP Y (xB U (aJ 0) (aJ 2)) (bE (vC (by rfl) T.k_NOUGHT))) (aM (j7 1 U rfl (by rfl) (dw rfl) (aJ 2) (hJ U (aJ 0) (aJ 2)))
   aW)
   aW)
   aW)))
   (aM (Oc 1 rfl (by rfl) (dw rfl))
   aW)))
abbrev n9:Stmt:=top 37
abbrev pU:List Str:=["wishes","left","thing","told","targets","span","after"]
abbrev Cs:List Str:=["wishes"]
theorem lO:FnScope pU Cs (aF n9):=bZ
abbrev Kp:FQ:=(c6 (gv 1))
abbrev Kx:FS:=(aG (putF ko 1 (gv 2) (fun _=>Res.ok (D.tup [D.int 1,D.int 1]))) aV)
abbrev Ky:FS:=(aG (aR kn 4 (eF 1 [1] (bP dy (gv 0)) (bS 0) (fun _=>Res.ok true) (bI (aI (gv 0) (aI (gv 1) aH)) [] iF))) (aG (aR [.bw,.ow,.sh,.ow,.ow,.sh,.sh] 5 (bI (aI (gv 1) (aI (gv 4) aH)) [] zS)) (aG (aR [.bw,.sh,.sh,.ow,.ow,.sh,.sh] 6 (bI (aI (gv 1) (aI (gv 4) (aI (gv 5) aH))) [] xY)) (aG (aR [.bw,.sh,.sh,.ow,.ow,.sh,.sh] 1 (kB (bI (aI (gv 6) aH) [] wW))) (aG (dg "list" kn 3 (aI (lb (aI (gv 4) (aI (gv 5) (aI (fC (aI (eF 1 [1] (bP lx (gv 6)) (bS 0) (bW (f2 (gv 0) (gv 1) fV)) (gv 0)) aH) tupD) aH)))) aH) appD) aV)))))
def Cn:FS:=(aG (aR [.bw,.sh,.sh,.sh,.sh,.sh,.sh] 1 (fun _=>Res.ok (D.dic []))) (aG (eJ ko (dX dO (aI (bI (aI (gv 0) aH) [] eL) aH)) (bS 2) Kx) (aG (aR ko 3 (fW aH)) (aG (gp kn Kp Ky 64) (aG (aS ko (gv 3)) aV)))))
def wV:List D->Res D:=fun ds=>aT false (Cn (bL pU.length ds))
theorem OI(T:Txt K mg)(A:DefAt K mg "meals_of" n9)(Z:Callee P w K mg base "things_in" je [] 1 false [Md.bw] eL)(BT:Callee P w K mg base "best_left" n0 [] 1 false q0 iF)(U:Callee P w K mg base "time_until_one_is_gone" DZ [] 4 false q0 zS)(Y:Callee P w K mg base "left_after" Dh [] 4 false ij xY)(Cl:Callee P w K mg base "not_gone" Ct [] 1 true [Md.sh] wW):Callee P w K mg base "meals_of" Cs [] 5 false [Md.bw] wV:=
 du (m':=ko) A lO fun f cdv A outer s H g E hr Id=>(aM (eI 1 lO.nd (by rfl) (dW rfl) jr)
   (aM (jn I_ rfl (j3 (by rfl) T.b_range (cK (bE (bK Z (aK (aJ 0) bG))) cL)) (c8 2 lO.nd) (aM (j7 1 Id rfl (by rfl) (dw rfl) (aJ 2) (vC (by rfl) T.k_ONE))
   aW))
   (aM (eI 3 lO.nd (by rfl) (dW rfl) (g6 de))
   (aM (vF 64 I_ (gG (aJ 1)) (aM (rM 4 (X:=(cw dm P w K mg base pU "meals_of" (aF n9) f cdv A outer s H E).nox) (m:=kn) (N':=["row","left"]) (nl:=1) (cap:=[1]) lO.nd rfl (by rfl) (by rfl) (hZ (osc:=(aF n9)) (ON:=pU) rfl rfl (by decide+kernel)) (jq (aJ 0)) (fun _ _ _ _ _ _=>(c8 0 (show QaG (["row","left"]:List Str)by decide+kernel))) (hW (by decide)) (fun _ _ _ _ _ _=>jS) (fun _ _ _ _ _ _=>(bK BT (aK (aJ 0) (aK (aJ 1) bG)))))
   (aM (cZ 5 lO.nd (bK U (aK (aJ 1) (aK (aJ 4) bG))))
   (aM (mK 1 rfl (cZ 6 lO.nd (bK Y (bF (v_ 1) (aK (aJ 4) (aK (aJ 5) bG))))))
   (aM (eI 1 lO.nd (by rfl) (dW rfl) (OX (dds:=[]) Cl (hr.mono (by decide)) (bF (v_ 6) bG)))
   (aM (mK 4 rfl (hU 3 rfl F_ Qad Qae kg kR (by rfl) (dw rfl) (df (nB (df (v_ 4) (df (v_ 5) (df (jd (by rfl) T.b_tuple (cK (SO.toB (jQ (X:=(cw dm P w K mg base pU "meals_of" (aF n9) f cdv A outer s H E).nox) (N':=["thing","left"]) (nl:=1) (cap:=[1]) lO.nd rfl (hZ (osc:=(aF n9)) (ON:=pU) rfl rfl (by decide+kernel)) (O4 (v_ 6)) (fun _ _ _ _ _ _=>(c8 0 (show QaG (["thing","left"]:List Str)by decide+kernel))) (hW (by decide)) (fun _ _ _ _ _ _=>(qR (Ay Id (aJ 0) (aJ 1)))) (fun _ _ _ _ _ _=>(v_ 0)))) cL)) de)))) de)))
   aW))))))
   (aM (mK 3 rfl (bU (v_ 3)))
   aW)))))
abbrev AX:Stmt:=top 28
abbrev Gp:List Str:=["a","b"]
abbrev uT:List Str:=["a","b"]
theorem Pl:FnScope Gp uT (aF AX):=bZ
def AH:FS:=(aG (aS q0 (bI (aI (f2 (f2 (f2 (gv 0) (ci 0) bY) (f2 (gv 1) (ci 1) bY) eR) (f2 (f2 (gv 1) (ci 0) bY) (f2 (gv 0) (ci 1) bY) eR) addA) (aI (f2 (f2 (gv 0) (ci 1) bY) (f2 (gv 1) (ci 1) bY) eR) aH)) [] ic)) aV)
def nG:List D->Res D:=fun ds=>aT false (AH (bL Gp.length ds))
theorem VM(T:Txt K mg)(A:DefAt K mg "plus" AX)(Y:Callee P w K mg base "fraction" nc [] 2 false bO ic):Callee P w K mg base "plus" uT [] 3 false q0 nG:=
 du (m':=q0) A Pl fun f cdv A outer s H g E hr U=>(aM (bU (bK Y (bF (jb (bE (kQ (xB U (aJ 0) iB) (xB U (aJ 1) iB))) (bE (kQ (xB U (aJ 1) iB) (xB U (aJ 0) iB)))) (bF (kQ (xB U (aJ 0) iB) (xB U (aJ 1) iB)) bG))))
   aW)
abbrev BO:Stmt:=top 39
abbrev Iz:List Str:=["meals","log","now","targets","span","gone"]
abbrev BR:List Str:=["meals"]
theorem nW:FnScope Iz BR (aF BO):=bZ
abbrev J4:FS:=(aG (aR l0 2 (bI (aI (gv 2) (aI (gv 4) aH)) [] nG)) (aG (dg "list" l0 1 (aI (lb (aI (gv 2) (aI (gv 5) aH))) aH) appD) aV))
def BQ:FS:=(aG (aR gU 1 (fW aH)) (aG (aR l0 2 (fun _=>Res.ok (D.tup [D.int 0,D.int 1]))) (aG (eJ l0 (bP dy (gv 0)) (lc (fJ (bS 3) (fJ (bS 4) (fJ (bS 5) kJ)))) J4) (aG (aS gU (gv 1)) aV))))
def vS:List D->Res D:=fun ds=>aT false (BQ (bL Iz.length ds))
theorem Ni(T:Txt K mg)(A:DefAt K mg "log_of" BO)(U:Callee P w K mg base "plus" uT [] 3 false q0 nG):Callee P w K mg base "log_of" BR [] 4 false [Md.bw] vS:=
 du (m':=gU) A nW fun f cdv A outer s H g E hr Y=>(aM (eI 1 nW.nd (by rfl) (dW rfl) (g6 de))
   (aM (cZ 2 nW.nd (vC (by rfl) T.k_NOUGHT))
   (aM (pD I_ rfl (q8 (qa 0)) (uF rfl (kS (c8 3 nW.nd) (kS (c8 4 nW.nd) (kS (c8 5 nW.nd) uE)))) (aM (cZ 2 nW.nd (bK U (aK (aJ 2) (aK (aJ 4) bG))))
   (aM (hU 1 rfl F_ Qad Qae kg kR (by rfl) (dw rfl) (df (nB (df (v_ 2) (df (v_ 5) de))) de))
   aW)))
   (aM (mK 1 rfl (bU (v_ 1)))
   aW))))
abbrev Cg:Stmt:=top 38
abbrev JH:List Str:=["wishes","hand","meals","shares","targets","span","gone","thing"]
abbrev CS:List Str:=["wishes","hand","meals"]
theorem p5:FnScope JH CS (aF Cg):=bZ
abbrev KM:FS:=(aG (aR km 7 (f2 (gv 4) (gv 1) bY)) (aG (putF km 3 (gv 7) (bI (aI (f2 (gv 3) (gv 7) bY) (aI (gv 5) aH)) [] nG)) aV))
def C3:FS:=(aG (aR [.bw,.bw,.bw,.sh,.sh,.sh,.sh,.sh] 3 (f2 (fW (aI (fun _=>Res.ok (D.tup [D.int 0,D.int 1])) aH)) (bI (aI (gv 0) aH) [] eL) lY)) (aG (eJ km (bP dy (gv 2)) (lc (fJ (bS 4) (fJ (bS 5) (fJ (bS 6) kJ)))) KM) (aG (aS km (fC (aI (gv 3) aH) tupD)) aV)))
def xJ:List D->Res D:=fun ds=>aT false (C3 (bL JH.length ds))
theorem Qt(T:Txt K mg)(A:DefAt K mg "shares_of" Cg)(U:Callee P w K mg base "things_in" je [] 1 false [Md.bw] eL)(Z:Callee P w K mg base "plus" uT [] 3 false q0 nG):Callee P w K mg base "shares_of" CS [] 4 false gV xJ:=
 du (m':=km) A p5 fun f cdv A outer s H g E hr Y=>(aM (eI 3 p5.nd (by rfl) (dW rfl) (VH (g6 (df (vC (by rfl) T.k_NOUGHT) de)) (bE (bK U (aK (aJ 0) bG)))))
   (aM (pD I_ rfl (q8 (qa 2)) (uF rfl (kS (c8 4 p5.nd) (kS (c8 5 p5.nd) (kS (c8 6 p5.nd) uE)))) (aM (cZ 7 p5.nd (hJ Y (aJ 4) (aJ 1)))
   (aM (j7 3 Y rfl (by rfl) (dw rfl) (aJ 7) (bK Z (aK (xB Y (aJ 3) (aJ 7)) (aK (aJ 5) bG))))
   aW)))
   (aM (bU (jd (by rfl) T.b_tuple (cK (aJ 3) cL)))
   aW)))
abbrev re:Stmt:=top 40
abbrev vK:List Str:=["wishes","meals","table"]
abbrev vL:List Str:=["wishes"]
theorem wE:FnScope vK vL (aF re):=bZ
def Bf:FS:=(aG (jl eN (bI (aI (gv 0) aH) [] zH)) (aG (aR eN 1 (bI (aI (gv 0) aH) [] wV)) (aG (aR eN 2 (fC (aI (eF 1 [0,1] (dX dO (aI (fC (aI (gv 0) aH) lenD) aH)) (bS 0) (fun _=>Res.ok true) (bI (aI (gv 1) (aI (gv 0) (aI (gv 2) aH))) [] xJ)) aH) tupD)) (aG (aS eN (lb (aI (gv 2) (aI (bI (aI (gv 1) aH) [] vS) aH)))) aV))))
def pF:List D->Res D:=fun ds=>aT false (Bf (bL vK.length ds))
theorem Mh(T:Txt K mg)(A:DefAt K mg "eaten" re)(U:Callee P w K mg base "refuse_unless_square" D4 [] 3 false [Md.bw] zH)(Z:Callee P w K mg base "meals_of" Cs [] 5 false [Md.bw] wV)(Y:Callee P w K mg base "shares_of" CS [] 4 false gV xJ)(BT:Callee P w K mg base "log_of" BR [] 4 false [Md.bw] vS):Callee P w K mg base "eaten" vL [] 6 false [Md.bw] pF:=
 du (m':=eN) A wE fun f cdv A outer s H g E hr Cl=>(aM (pC (bK U (aK (aJ 0) bG)))
   (aM (cZ 1 wE.nd (bK Z (aK (aJ 0) bG)))
   (aM (cZ 2 wE.nd (jd (by rfl) T.b_tuple (cK (SO.toB (jQ (X:=(cw dm P w K mg base vK "eaten" (aF re) f cdv A outer s H E).nox) (N':=["hand","wishes","meals"]) (nl:=1) (cap:=[0,1]) wE.nd rfl (hZ (osc:=(aF re)) (ON:=vK) rfl rfl (by decide+kernel)) (kD.toC (j3 (by rfl) T.b_range (cK (bE (gm (by rfl) T.b_len (cK (aJ 0) cL))) cL))) (fun _ _ _ _ _ _=>(c8 0 (show QaG (["hand","wishes","meals"]:List Str)by decide+kernel))) (hW (by decide)) (fun _ _ _ _ _ _=>jS) (fun _ _ _ _ _ _=>(bK Y (aK (aJ 1) (aK (aJ 0) (aK (aJ 2) bG))))))) cL)))
   (aM (bU (nB (df (v_ 2) (df (bK BT (aK (aJ 1) bG)) de))))
   aW))))
abbrev BY:Stmt:=top 40
abbrev Jr:List Str:=["wishes","meals","table"]
abbrev BX:List Str:=["wishes"]
theorem T6:FnScope Jr BX (aF BY):=bZ
def wT:FS:=(aG (jl eN (iw (aI (gv 0) aH) [] DX)) (fun _=>Out.stuck))
def BW:List D->Res D:=fun ds=>aT false (wT (bL Jr.length ds))
theorem NV(T:Txt K mg)(A:DefAt K mg "eaten" BY)(U:CalleeX P w K mg base "refuse_unless_square" DY [] 3 false [Md.bw] DX):CalleeX P w K mg base "eaten" BX [] 4 false [Md.bw] BW:=by
 refine uZ (k:=3) (fs:=wT) (m':=eN) A T6 rfl (fun _ _ _ _ _ _ us hl=>by obtain⟨u0,rfl⟩:=mv us hl;kernel_rfl) fun f cdv A outer s H g E hr=>?_;have Z:=dH hr;have Y:=hr.units;exact(aM (pC (lF U (hr.mono (by decide)) (aK (aJ 0) bG)))
   rB)
abbrev nX:Stmt:=iC (top 60) 0
abbrev Lj:List Str:=["self","wishes"]
abbrev DQ:List Str:=["self","wishes"]
theorem Vn:FnScope Lj DQ (aF nX):=bZ
def zP:FS:=(aG (aS bO (f2 (bI (aI (gv 1) aH) [] pF) (ci 0) bY)) aV)
def zQ:List D->Res D:=fun ds=>aT false (zP (bL Lj.length ds))
theorem T4(T:Txt K mg)(A:MethAt K "ByEating" "shares" "ByEating.shares" nX)(U:Callee P w K mg base "eaten" vL [] 6 false [Md.bw] pF):CalleeM P w K mg base "shares" DQ 7 (fun x=>x == "ByEating") [Md.sh] zQ:=by
 refine mY (k:=6) (fs:=zP) (m':=bO) A Vn rfl (fun _ _ _ _ _ _ us hl=>by obtain⟨u0,u1,rfl⟩:=gl us hl;kernel_rfl) fun f cdv A outer s H g E hr=>?_;have Y:=dH hr;have Z:=hr.units;exact(aM (bU (hJ Y (bE (bK U (aK (aJ 1) bG))) iB))
   aW)
abbrev Cr:List Str:=["self","wishes"]
abbrev k6:Str->Bool:=(fun nm=>(fun x:Str=>x == "ByRings") nm || (fun nm=>(fun x:Str=>x == "ByOrder") nm || (fun nm=>(fun x:Str=>x == "ByLot") nm || (fun x:Str=>x == "ByEating") nm) nm) nm)
abbrev j2:List D->Res D:=(jN (fun x:Str=>x == "ByRings") yS (jN (fun x:Str=>x == "ByOrder") yQ (jN (fun x:Str=>x == "ByLot") yZ zQ)))
theorem OH(Z:CalleeM P w K mg base "shares" DF 10 (fun x=>x == "ByRings") [Md.sh] yS)(Y:CalleeM P w K mg base "shares" DC 10 (fun x=>x == "ByOrder") [Md.sh] yQ)(BT:CalleeM P w K mg base "shares" Dw 9 (fun x=>x == "ByLot") [Md.sh] yZ)(U:CalleeM P w K mg base "shares" DQ 7 (fun x=>x == "ByEating") [Md.sh] zQ):CalleeM P w K mg base "shares" Cr 10 k6 [Md.sh] j2:=((Z.mono (k:=10) (by decide)).or ((Y.mono (k:=10) (by decide)).or ((BT.mono (k:=10) (by decide)).or (U.mono (k:=10) (by decide)))))
abbrev Ls:Stmt:=iC (top 56) 0
abbrev Lh:List Str:=["self","wishes"]
abbrev DU:List Str:=["self","wishes"]
theorem Vv:FnScope Lh DU (aF Ls):=bZ
def zJ:FS:=(aG (aS bO (bI (aI (fW (aI (lp lK "sure" (gv 0) (aI (gv 1) aH) ke) aH)) (aI (bI (aI (gv 1) aH) [] eL) aH)) [] jv)) aV)
def zL:List D->Res D:=fun ds=>aT false (zJ (bL Lh.length ds))
theorem Uq(T:Txt K mg)(A:MethAt K "ByRings" "shares" "Rule.shares" Ls)(U:Callee P w K mg base "things_in" je [] 1 false [Md.bw] eL)(Z:CalleeMX P w K mg base "sure" wM 9 lK [Md.sh] ke)(Y:Callee P w K mg base "shares_in" n5 [] 3 false q0 jv):CalleeMX P w K mg base "shares" DU 10 (fun x=>x == "ByRings") [Md.sh] zL:=by
 refine pP (k:=9) (fs:=zJ) (m':=bO) A Vv rfl (fun _ _ _ _ _ _ us hl=>by obtain⟨u0,u1,rfl⟩:=gl us hl;kernel_rfl) fun f cdv A outer s H g E hr=>?_;have Cl:=dH hr;have BT:=hr.units;exact(aM (bU (bK Y (aK (SO.toB (g6 (df (vD Z (hr.mono (by decide)) (v_ 0) (bF (v_ 1) bG)) de))) (aK (bE (bK U (aK (aJ 1) bG))) bG))))
   aW)
abbrev Lr:Stmt:=iC (top 56) 0
abbrev Lg:List Str:=["self","wishes"]
abbrev DT:List Str:=["self","wishes"]
theorem Vu:FnScope Lg DT (aF Lr):=bZ
def zI:FS:=(aG (aS bO (bI (aI (fW (aI (lp lK "sure" (gv 0) (aI (gv 1) aH) ke) aH)) (aI (bI (aI (gv 1) aH) [] eL) aH)) [] jv)) aV)
def zK:List D->Res D:=fun ds=>aT false (zI (bL Lg.length ds))
theorem Up(T:Txt K mg)(A:MethAt K "ByOrder" "shares" "Rule.shares" Lr)(U:Callee P w K mg base "things_in" je [] 1 false [Md.bw] eL)(Z:CalleeMX P w K mg base "sure" wM 9 lK [Md.sh] ke)(Y:Callee P w K mg base "shares_in" n5 [] 3 false q0 jv):CalleeMX P w K mg base "shares" DT 10 (fun x=>x == "ByOrder") [Md.sh] zK:=by
 refine pP (k:=9) (fs:=zI) (m':=bO) A Vu rfl (fun _ _ _ _ _ _ us hl=>by obtain⟨u0,u1,rfl⟩:=gl us hl;kernel_rfl) fun f cdv A outer s H g E hr=>?_;have Cl:=dH hr;have BT:=hr.units;exact(aM (bU (bK Y (aK (SO.toB (g6 (df (vD Z (hr.mono (by decide)) (v_ 0) (bF (v_ 1) bG)) de))) (aK (bE (bK U (aK (aJ 1) bG))) bG))))
   aW)
abbrev Lm:Stmt:=iC (top 59) 0
abbrev K6:List Str:=["self","wishes"]
abbrev DB:List Str:=["self","wishes"]
theorem Vo:FnScope K6 DB (aF Lm):=bZ
def yK:FS:=(aG (aS bO (iw (aI (gv 1) aH) [] Bj)) aV)
def yP:List D->Res D:=fun ds=>aT false (yK (bL K6.length ds))
theorem Tx(T:Txt K mg)(A:MethAt K "ByLot" "shares" "ByLot.shares" Lm)(U:CalleeX P w K mg base "lot" Bl [] 2 false [Md.bw] Bj):CalleeMX P w K mg base "shares" DB 3 (fun x=>x == "ByLot") [Md.sh] yP:=by
 refine pP (k:=2) (fs:=yK) (m':=bO) A Vo rfl (fun _ _ _ _ _ _ us hl=>by obtain⟨u0,u1,rfl⟩:=gl us hl;kernel_rfl) fun f cdv A outer s H g E hr=>?_;have Z:=dH hr;have Y:=hr.units;exact(aM (bU (lF U (hr.mono (by decide)) (aK (aJ 1) bG)))
   aW)
abbrev Lp:Stmt:=iC (top 60) 0
abbrev Lq:List Str:=["self","wishes"]
abbrev DO:List Str:=["self","wishes"]
theorem Vt:FnScope Lq DO (aF Lp):=bZ
def zN:FS:=(aG (aS bO (f2 (iw (aI (gv 1) aH) [] BW) (ci 0) bY)) aV)
def zO:List D->Res D:=fun ds=>aT false (zN (bL Lq.length ds))
theorem UO(T:Txt K mg)(A:MethAt K "ByEating" "shares" "ByEating.shares" Lp)(U:CalleeX P w K mg base "eaten" BX [] 4 false [Md.bw] BW):CalleeMX P w K mg base "shares" DO 5 (fun x=>x == "ByEating") [Md.sh] zO:=by
 refine pP (k:=4) (fs:=zN) (m':=bO) A Vt rfl (fun _ _ _ _ _ _ us hl=>by obtain⟨u0,u1,rfl⟩:=gl us hl;kernel_rfl) fun f cdv A outer s H g E hr=>?_;have Y:=dH hr;have Z:=hr.units;exact(aM (bU (hJ Y (bE (lF U (hr.mono (by decide)) (aK (aJ 1) bG))) iB))
   aW)
abbrev JJ:List Str:=["self","wishes"]
abbrev rT:Str->Bool:=(fun nm=>(fun x:Str=>x == "ByRings") nm || (fun nm=>(fun x:Str=>x == "ByOrder") nm || (fun nm=>(fun x:Str=>x == "ByLot") nm || (fun x:Str=>x == "ByEating") nm) nm) nm)
abbrev sf:List D->Res D:=(jN (fun x:Str=>x == "ByRings") zL (jN (fun x:Str=>x == "ByOrder") zK (jN (fun x:Str=>x == "ByLot") yP zO)))
theorem Qq(Z:CalleeMX P w K mg base "shares" DU 10 (fun x=>x == "ByRings") [Md.sh] zL)(Y:CalleeMX P w K mg base "shares" DT 10 (fun x=>x == "ByOrder") [Md.sh] zK)(BT:CalleeMX P w K mg base "shares" DB 3 (fun x=>x == "ByLot") [Md.sh] yP)(U:CalleeMX P w K mg base "shares" DO 5 (fun x=>x == "ByEating") [Md.sh] zO):CalleeMX P w K mg base "shares" JJ 10 rT [Md.sh] sf:=((Z.mono (k:=10) (by decide)).or ((Y.mono (k:=10) (by decide)).or ((BT.mono (k:=10) (by decide)).or (U.mono (k:=10) (by decide)))))
abbrev Dl:Stmt:=top 67
abbrev K4:List Str:=["_law_rule","_law_wishes_here","_law_way","_law_told"]
abbrev zC:List Str:=["_law_rule","_law_wishes_here","_law_way"]
theorem sy:FnScope K4 zC (aF Dl):=bZ
def Dv:FS:=(aG (aR fR 3 (fun _=>Res.ok (D.str ""))) (aG (kh fR (aG (dj fR (bW (f2 (gv 2) (ci 0) eqD)) (aG (jl fR (lp lK "sure" (gv 0) (aI (gv 1) aH) ke)) aV) (aG (jl fR (lp rT "shares" (gv 0) (aI (gv 1) aH) sf)) aV)) aV) (qy xA (fun nm=>nh nm || jZ nm) (aG (aR kl 3 (fun _=>Res.ok (D.str "order"))) aV) (qy nh jZ (aG (aR kl 3 (fun _=>Res.ok (D.str "square"))) aV) (qy jZ (fun _=>false) (aG (aR kl 3 (fun _=>Res.ok (D.str "many"))) aV) tu)))) (aG (aS kl (gv 3)) aV)))
def ju:List D->Res D:=fun ds=>aT false (Dv (bL K4.length ds))
theorem Tk(T:Txt K mg)(A:DefAt K mg "_law_refused" Dl)(W2:CalleeMX P w K mg base "sure" wM 9 lK [Md.sh] ke)(Ty:CalleeMX P w K mg base "shares" JJ 10 rT [Md.sh] sf){Y:Addr}{WZ:List a_}(KK:XA K Y WZ)(WW:mg "NoOrder" = some (.ref Y))(W1:j5 K Y xA){U:Addr}{ST:List a_}(Id:XA K U ST)(Tm:mg "NotSquare" = some (.ref U))(LT:j5 K U nh){IO:Addr}{WX:List a_}(LE:XA K IO WX)(W0:mg "TooMany" = some (.ref IO))(WY:j5 K IO jZ)(Z:gK K U jZ)(Cl:gK K Y jZ)(BT:gK K Y nh):Callee P w K mg base "_law_refused" zC [] 11 false [.sh,.sh,.bw] ju:=
 du (m':=kl) A sy fun f cdv A outer s H g E hr W4=>have W3:=hr.units;(aM (cZ 3 sy.nd kM)
   (aM (Od (m1:=fR) rfl rfl (fun _ _=>(aM (bX (jz W3 (aJ 2) iB) (aM (pC (vD W2 (hr.mono (by decide)) (v_ 0) (bF (v_ 1) bG)))
   aW)
   (aM (pC (vD Ty (hr.mono (by decide)) (v_ 0) (bF (v_ 1) bG)))
   aW))
   aW)) (AO WW KK.ob KK.be W1 (gK.or BT Cl) (by rfl) (fun _=>(aM (cZ 3 sy.nd kM)
   aW)) (AO Tm Id.ob Id.be LT Z (by rfl) (fun _=>(aM (cZ 3 sy.nd kM)
   aW)) (AO W0 LE.ob LE.be WY gK.no (by rfl) (fun _=>(aM (cZ 3 sy.nd kM)
   aW)) Wd))))
   (aM (bU (v_ 3))
   aW)))
abbrev CA:Stmt:=top 68
abbrev JD:List Str:=["_law_wishes_here","_law_n","_law_m","_law_one","_law_other"]
abbrev C5:List Str:=["_law_wishes_here","_law_n","_law_m"]
theorem Dk:FnScope JD C5 (aF CA):=bZ
def CY:FS:=(aG (aR fT 3 (fun _=>Res.ok (iD "ByLot" []))) (aG (aR fT 4 (fun _=>Res.ok (iD "ByEating" []))) (aG (dj fT (gJ (bW (f2 (iK jX "sure" (gv 3) (aI (gv 0) aH) iA) (fun _=>Res.ok D.non) ik)) (bW (f2 (iK jX "sure" (gv 4) (aI (gv 0) aH) iA) (fun _=>Res.ok D.non) ik))) (aG (aS fT (fun _=>Res.ok (D.bl false))) aV) aV) (aG (dj fT (gJ (eV (bW (f2 (gv 1) (ci 5) jj)) (bW (f2 (bI (aI (gv 3) (aI (gv 0) (aI (ci 1) aH))) [] ju) (fun _=>Res.ok (D.str "many")) neD))) (eV (bW (f2 (gv 2) (gv 1) jj)) (bW (f2 (bI (aI (gv 4) (aI (gv 0) (aI (ci 1) aH))) [] ju) (fun _=>Res.ok (D.str "square")) neD)))) (aG (aS fT (fun _=>Res.ok (D.bl false))) aV) aV) (aG (dj fT (eV (bW (f2 (gv 1) (ci 6) jh)) (bW (f2 (iK k6 "shares" (gv 3) (aI (gv 0) aH) j2) (bI (aI (gv 0) aH) [] ph) neD))) (aG (aS fT (fun _=>Res.ok (D.bl false))) aV) aV) (aG (aS fT (qb (f2 (gv 2) (gv 1) jj) (f2 (iK k6 "shares" (gv 4) (aI (gv 0) aH) j2) (f2 (bI (aI (gv 0) aH) [] pF) (ci 0) bY) eqD))) aV))))))
def xG:List D->Res D:=fun ds=>aT false (CY (bL JD.length ds))
theorem Qk(T:Txt K mg)(A:DefAt K mg "_law_lots" CA)(Z:CalleeM P w K mg base "sure" rG 9 jX [Md.sh] iA)(U:Callee P w K mg base "_law_refused" zC [] 11 false [.sh,.sh,.bw] ju)(Y:CalleeM P w K mg base "shares" Cr 10 k6 [Md.sh] j2)(LT:Callee P w K mg base "lot" uA [] 8 false [Md.bw] ph)(KK:Callee P w K mg base "eaten" vL [] 6 false [Md.bw] pF){LE:Addr}(IO:MkP K mg "ByLot" "ByLot" LE){Id:Addr}(BT:MkP K mg "ByEating" "ByEating" Id):Callee P w K mg base "_law_lots" C5 [] 12 false ij xG:=
 du (m':=fT) A Dk fun f cdv A outer s H g E hr ST=>have Cl:=hr.units;(aM (cZ 3 Dk.nd (HS IO))
   (aM (cZ 4 Dk.nd (HS BT))
   (aM (bX (SW.toQ (d9 (qJ (bE (j8 Z (hr.mono (by decide)) (v_ 3) (bF (v_ 0) bG))) (bE jo)) (my (qJ (bE (j8 Z (hr.mono (by decide)) (v_ 4) (bF (v_ 0) bG))) (bE jo))))) (aM (bU dN)
   aW)
   aW)
   (aM (bX (SW.toQ (d9 (SW.toQ (pe (jy (aJ 1) iB) (pB (dP Cl (bE (bK U (bF (v_ 3) (bF (v_ 0) (aK iB bG))))) (bE kM))))) (my (SW.toQ (pe (jy (aJ 2) (aJ 1)) (pB (dP Cl (bE (bK U (bF (v_ 4) (bF (v_ 0) (aK iB bG))))) (bE kM)))))))) (aM (bU dN)
   aW)
   aW)
   (aM (bX (SW.toQ (pe (lZ (aJ 1) iB) (pB (dP Cl (bE (j8 Y (hr.mono (by decide)) (v_ 3) (bF (v_ 0) bG))) (bE (bK LT (aK (aJ 0) bG))))))) (aM (bU dN)
   aW)
   aW)
   (aM (bU (Ep (sP (aJ 2) (aJ 1)) (qK (gT Cl (bE (j8 Y (hr.mono (by decide)) (v_ 4) (bF (v_ 0) bG))) (xB ST (bE (bK KK (aK (aJ 0) bG))) iB)))))
   aW))))))
abbrev sj:Stmt:=top 66
abbrev xK:List Str:=["_law_rule","_law_wishes_here","_law_due","_law_ahead","_law_shares","_law_thing"]
abbrev C7:List Str:=["_law_rule","_law_wishes_here","_law_due","_law_ahead"]
theorem yI:FnScope xK C7 (aF sj):=bZ
abbrev KI:FS:=(aG (dg "list" ig 4 (aI (fC (aI (eF 1 [5] (dX dO (aI (fC (aI (f2 (gv 1) (ci 0) bY) aH) lenD) aH)) (bS 0) (fun _=>Res.ok true) (lb (aI (fC (aI (f2 (gv 0) (gv 1) eqD) aH) qz) (aI (ci 1) aH)))) aH) tupD) aH) appD) aV)
def C0:FS:=(aG (aR [.sh,.sh,.bw,.bw,.sh,.sh] 4 (fW aH)) (aG (eJ ig (bP dy (gv 2)) (bS 5) KI) (aG (dj ig (eV (c6 (gv 3)) (bW (f2 (iK k6 "shares" (gv 0) (aI (gv 1) aH) j2) (fC (aI (gv 4) aH) tupD) neD))) (aG (aS ig (fun _=>Res.ok (D.bl false))) aV) aV) (aG (dj ig (gJ (dF (c6 (f1 (gv 0) (Ap nH)))) (gJ (bW (f2 (iK jX "sure" (gv 0) (aI (gv 1) aH) iA) (gv 2) neD)) (bW (f2 (iK k6 "shares" (gv 0) (aI (gv 1) aH) j2) (fC (aI (gv 4) aH) tupD) neD)))) (aG (aS ig (fun _=>Res.ok (D.bl false))) aV) aV) (aG (aS ig (gQ (f1 (iK k6 "shares" (gv 0) (aI (gv 1) aH) j2) (iX "tuple")) (f2 (iK jX "sure" (gv 0) (aI (gv 1) aH) iA) (gv 2) eqD))) aV)))))
def lP:List D->Res D:=fun ds=>aT false (C0 (bL xK.length ds))
theorem Qm(T:Txt K mg)(A:DefAt K mg "_law_sure" sj)(U:CalleeM P w K mg base "shares" Cr 10 k6 [Md.sh] j2)(Y:CalleeM P w K mg base "sure" rG 9 jX [Md.sh] iA){BT:Addr}(Cl:mg "Rule" = some (.ref BT))(Id:qm K (.ref BT) nH):Callee P w K mg base "_law_sure" C7 [] 11 false [.sh,.sh,.bw,.bw] lP:=
 du (m':=ig) A yI fun f cdv A outer s H g E hr IO=>have Z:=hr.units;(aM (eI 4 yI.nd (by rfl) (dW rfl) (g6 de))
   (aM (pD I_ rfl (q8 (qa 2)) (c8 5 yI.nd) (aM (hU 4 rfl F_ Qad Qae kg kR (by rfl) (dw rfl) (df (jd (by rfl) T.b_tuple (cK (SO.toB (jQ (X:=(cw dm P w K mg base xK "_law_sure" (aF sj) f cdv A outer s H E).nox) (N':=["_law_one","_law_thing"]) (nl:=1) (cap:=[5]) yI.nd rfl (hZ (osc:=(aF sj)) (ON:=xK) rfl rfl (by decide+kernel)) (kD.toC (j3 (by rfl) T.b_range (cK (bE (gm (by rfl) T.b_len (cK (xB IO (aJ 1) iB) cL))) cL))) (fun _ _ _ _ _ _=>(c8 0 (show QaG (["_law_one","_law_thing"]:List Str)by decide+kernel))) (hW (by decide)) (fun _ _ _ _ _ _=>jS) (fun _ _ _ _ _ _=>(nB (df (N8 (by rfl) T.b_int (cK (bE (gT Z (aJ 0) (aJ 1))) cL)) (df nA de)))))) cL)) de))
   aW))
   (aM (bX (SW.toQ (pe (gG (aJ 3)) (pB (dP Z (bE (j8 U (hr.mono (by decide)) (v_ 0) (bF (v_ 1) bG))) (bE (jd (by rfl) T.b_tuple (cK (aJ 4) cL))))))) (aM (bU dN)
   aW)
   aW)
   (aM (bX (SW.toQ (d9 (i9 (gG (bE (N9 Cl Id (by rfl) (by rfl) T.b_isinstance (aJ 0))))) (d9 (dP Z (bE (j8 Y (hr.mono (by decide)) (v_ 0) (bF (v_ 1) bG))) (aJ 2)) (my (dP Z (bE (j8 U (hr.mono (by decide)) (v_ 0) (bF (v_ 1) bG))) (bE (jd (by rfl) T.b_tuple (cK (aJ 4) cL)))))))) (aM (bU dN)
   aW)
   aW)
   (aM (bU (uL (qG "tuple" "tuple" rfl (IU _) (by rfl) T.b_isinstance (by rfl) T.b_tuple (bE (j8 U (hr.mono (by decide)) (v_ 0) (bF (v_ 1) bG)))) (qK (gT Z (bE (j8 Y (hr.mono (by decide)) (v_ 0) (bF (v_ 1) bG))) (aJ 2)))))
   aW)))))
abbrev AC:Stmt:=top 69
abbrev Fa:List Str:=["_law_script","_law_first","_law_n","_law_m","_law_wishes_here","_law_owns_here","_law_order","_law_given","_law_rings","_law_line","_law_turn","_law_others","_law_way"]
abbrev Fb:List Str:=["_law_script"]
theorem js:FnScope Fa Fb (aF AC):=bZ
abbrev Gx:FS:=(aG (dj cO (bW (f2 (bI (aI (jm "ByOrder" (aI (f2 (gv 6) (fW (aI (ci 0) aH)) addA) aH) [] k8) (aI (gv 4) (aI (gv 12) aH))) [] ju) (fun _=>Res.ok (D.str "order")) neD)) (aG (aS cO (fun _=>Res.ok (D.bl false))) aV) aV) (aG (dj cO (bW (f2 (bI (aI (jm "ByRings" (aI (gv 5) (aI (oR (gv 6) (pq (ci 1)) (fun _=>Res.ok none)) aH)) [] k9) (aI (gv 4) (aI (f2 (ci 1) (gv 12) iP) aH))) [] ju) (fun _=>Res.ok (D.str "order")) neD)) (aG (aS cO (fun _=>Res.ok (D.bl false))) aV) aV) aV))
def tX:FS:=(aG (aR iR 1 (bI (aI (gv 0) (aI (ci 1) aH)) [] kb)) (aG (aR iR 2 (f2 (ci 1) (f2 (gv 1) (ci 7) cQ) addA)) (aG (aR iR 3 (f2 (gv 2) (f2 (f2 (f2 (gv 1) (ci 7) jO) (f2 (ci 9) (gv 2) iP) cQ) (f2 (f2 (gv 1) (ci 63) jO) (ci 2) cQ) dS) addA)) (aG (aR iR 4 (bI (aI (gv 0) (aI (ci 4) (aI (gv 2) (aI (gv 3) aH)))) [] sr)) (aG (aR iR 5 (bI (aI (bI (aI (gv 0) (aI (ci 2) aH)) [] kb) (aI (gv 2) (aI (gv 3) aH))) [] xH)) (aG (aR iR 6 (fC (aI (bI (aI (bI (aI (gv 0) (aI (ci 3) aH)) [] kb) (aI (gv 2) aH)) [] n6) aH) nv)) (aG (aR iR 7 (fC (aI (gv 6) aH) nv)) (aG (aR cO 8 (jm "ByRings" (aI (gv 5) (aI (gv 7) aH)) [] k9)) (aG (aR cO 9 (jm "ByOrder" (aI (gv 7) aH) [] k8)) (aG (dj cO (gJ (bW (f2 (f1 (gv 8) (dA jU "owns")) (gv 5) neD)) (gJ (bW (f2 (f1 (gv 8) (dA fK "order")) (gv 6) neD)) (gJ (bW (f2 (f1 (gv 9) (dA fK "order")) (gv 6) neD)) (bW (f2 (f1 (jm "ByOrder" aH [D.non] k8) (dA fK "order")) (fun _=>Res.ok D.non) ik))))) (aG (aS cO (fun _=>Res.ok (D.bl false))) aV) aV) (aG (dg "list" cO 7 aH revD) (aG (dg "list" cO 7 (aI (ci 0) aH) appD) (aG (dj cO (gJ (bW (f2 (f1 (gv 8) (dA jU "owns")) (gv 5) neD)) (gJ (bW (f2 (f1 (gv 8) (dA fK "order")) (gv 6) neD)) (gJ (bW (f2 (f1 (gv 9) (dA fK "order")) (gv 6) neD)) (bW (f2 (f1 (jm "ByRings" (aI (gv 5) aH) [D.non] k9) (dA fK "order")) (fun _=>Res.ok D.non) ik))))) (aG (aS cO (fun _=>Res.ok (D.bl false))) aV) aV) (aG (aR cO 10 (f2 (f2 (gv 1) (ci 126) jO) (ci 4) cQ)) (aG (dj cO (dF (c6 (bI (aI (gv 8) (aI (gv 4) (aI (bI (aI (gv 4) (aI (gv 5) (aI (gv 6) aH))) [] iM) (aI (f2 (f2 (gv 10) (ci 2) cQ) (ci 1) eqD) aH)))) [] lP))) (aG (aS cO (fun _=>Res.ok (D.bl false))) aV) aV) (aG (dj cO (dF (c6 (bI (aI (gv 9) (aI (gv 4) (aI (bI (aI (gv 4) (aI (gv 6) aH)) [] h9) (aI (f2 (gv 10) (ci 1) jj) aH)))) [] lP))) (aG (aS cO (fun _=>Res.ok (D.bl false))) aV) aV) (aG (dj cO (dF (c6 (bI (aI (jm "ByRings" (aI (gv 5) aH) [D.non] k9) (aI (gv 4) (aI (bI (aI (gv 4) (aI (gv 5) aH)) [D.non] iM) (aI (f2 (f2 (gv 10) (ci 2) cQ) (ci 0) eqD) aH)))) [] lP))) (aG (aS cO (fun _=>Res.ok (D.bl false))) aV) aV) (aG (dj cO (dF (c6 (bI (aI (jm "ByOrder" aH [D.non] k8) (aI (gv 4) (aI (bI (aI (gv 4) aH) [D.non] h9) (aI (f2 (gv 10) (ci 2) jh) aH)))) [] lP))) (aG (aS cO (fun _=>Res.ok (D.bl false))) aV) aV) (aG (aR cO 11 (bI (aI (gv 0) (aI (ci 12) (aI (gv 2) (aI (gv 3) aH)))) [] sr)) (aG (dj cO (dF (c6 (bI (aI (gv 8) (aI (gv 11) (aI (bI (aI (gv 11) (aI (gv 5) (aI (gv 6) aH))) [] iM) (aI (f2 (f2 (gv 10) (ci 2) cQ) (ci 0) eqD) aH)))) [] lP))) (aG (aS cO (fun _=>Res.ok (D.bl false))) aV) aV) (aG (dj cO (dF (c6 (bI (aI (gv 9) (aI (gv 11) (aI (bI (aI (gv 11) (aI (gv 6) aH)) [] h9) (aI (f2 (gv 10) (ci 2) jh) aH)))) [] lP))) (aG (aS cO (fun _=>Res.ok (D.bl false))) aV) aV) (aG (eJ cO (dX dO (aI (ci 2) aH)) (bS 12) Gx) (aG (aS cO (bI (aI (gv 4) (aI (gv 2) (aI (gv 3) aH))) [] xG)) aV)))))))))))))))))))))))
def tW:List D->Res D:=fun ds=>aT false (tX (bL Fa.length ds))
theorem Wv(T:Txt K mg){fa:Addr}{fd:QaE}(A:Fun K "law" "law" AC fa fd)(BT:Callee P w K mg base "_law_cell" xM [] 1 false q0 kb)(KK:Callee P w K mg base "_law_wishes" Db [] 2 false jC sr)(WW:Callee P w K mg base "_law_owns" C6 [] 1 false ij xH)(W0:Callee P w K mg base "_law_row" wY [] 1 false [.sh,.bw] n6)(LE:CalleeN P w K mg base "ByRings" "ByRings" rZ [] 8 q0 k9)(LT:CalleeN P w K mg base "ByOrder" "ByOrder" rY [] 8 [Md.bw] k8)(IO:CalleeN P w K mg base "ByOrder" "ByOrder" rY [Value.none] 8 [Md.sh] k8)(Id:CalleeN P w K mg base "ByRings" "ByRings" rZ [Value.none] 8 eO k9)(ST:Callee P w K mg base "by_rings" pV [] 8 false kt iM)(U:Callee P w K mg base "_law_sure" C7 [] 11 false [.sh,.sh,.bw,.bw] lP)(Tm:Callee P w K mg base "by_order" n8 [] 7 false eO h9)(Ty:Callee P w K mg base "by_rings" pV [Value.none] 8 false kt iM)(WX:Callee P w K mg base "by_order" n8 [Value.none] 7 false eO h9)(Cl:Callee P w K mg base "_law_refused" zC [] 11 false [.sh,.sh,.bw] ju)(WY:Callee P w K mg base "_law_lots" C5 [] 12 false ij xG)(Y:gD K "order" fK)(WZ:gD K "owns" jU):FnOk P w K mg base dm 13 fa fd Fb (ki K false [Md.sh] tW):=by
 refine AN (k:=12) (fs:=tX) (m':=cO) A js rfl fun cdv A outer s H g E hr=>?_;have W1:=dH hr;have Z:=hr.units;exact(aM (cZ 1 js.nd (bK BT (aK (aJ 0) (aK iB bG))))
   (aM (cZ 2 js.nd (jb iB (bE (iy (aJ 1) iB))))
   (aM (cZ 3 js.nd (jb (aJ 2) (bE (mL (bE (iy (bE (ra (aJ 1) iB)) (bE (Au iB (aJ 2))))) (bE (iy (bE (ra (aJ 1) iB)) iB))))))
   (aM (cZ 4 js.nd (bK KK (aK (aJ 0) (aK iB (aK (aJ 2) (aK (aJ 3) bG))))))
   (aM (cZ 5 js.nd (bK WW (bF (bK BT (aK (aJ 0) (aK iB bG))) (aK (aJ 2) (aK (aJ 3) bG)))))
   (aM (cZ 6 js.nd (SO.toE (uQ (by rfl) T.b_list (cK (bE (bK W0 (bF (bK BT (aK (aJ 0) (aK iB bG))) (aK (aJ 2) bG)))) cL))))
   (aM (eI 7 js.nd (by rfl) (dW rfl) (uQ (by rfl) T.b_list (cK (aJ 6) cL)))
   (aM (cZ 8 js.nd (pE (dds:=[]) LE (hr.mono (by decide)) (aK (aJ 5) (aK (aJ 7) bG))))
   (aM (cZ 9 js.nd (pE (dds:=[]) LT (hr.mono (by decide)) (aK (aJ 7) bG)))
   (aM (bX (SW.toQ (d9 (dP Z (bE (i7 WZ (aJ 8))) (aJ 5)) (d9 (dP Z (bE (i7 Y (aJ 8))) (aJ 6)) (d9 (dP Z (bE (i7 Y (aJ 9))) (aJ 6)) (my (qJ (bE (i7 Y (bE (HR (dvs:=[.non]) (dds:=[D.non]) IO (hr.mono (by decide)) (hd:=.cons rfl .nil) (hsc:=.cons .non .nil))))) (bE jo))))))) (aM (bU dN)
   aW)
   aW)
   (aM (Oa 7 rfl F_ PySem.F.slot_list_reverse PySem.F.type_list_reverse Tv NY (by rfl) (dw rfl))
   (aM (hU 7 rfl F_ Qad Qae kg kR (by rfl) (dw rfl) (df nA de))
   (aM (bX (SW.toQ (d9 (dP Z (bE (i7 WZ (aJ 8))) (aJ 5)) (d9 (dP Z (bE (i7 Y (aJ 8))) (aJ 6)) (d9 (dP Z (bE (i7 Y (aJ 9))) (aJ 6)) (my (qJ (bE (i7 Y (bE (pE (dvs:=[.non]) (dds:=[D.non]) Id (hr.mono (by decide)) (aK (aJ 5) bG) (hd:=.cons rfl .nil) (hsc:=.cons .non .nil))))) (bE jo))))))) (aM (bU dN)
   aW)
   aW)
   (aM (cZ 10 js.nd (iy (bE (ra (aJ 1) iB)) iB))
   (aM (bX (i9 (gG (bE (bK U (bF (v_ 8) (bF (v_ 4) (aK (bE (bK ST (aK (aJ 4) (aK (aJ 5) (bF (v_ 6) bG))))) (aK (bE (gT Z (bE (iy (aJ 10) iB)) iB)) bG)))))))) (aM (bU dN)
   aW)
   aW)
   (aM (bX (i9 (gG (bE (bK U (bF (v_ 9) (bF (v_ 4) (aK (bE (bK Tm (aK (aJ 4) (bF (v_ 6) bG)))) (aK (bE (sP (aJ 10) iB)) bG)))))))) (aM (bU dN)
   aW)
   aW)
   (aM (bX (i9 (gG (bE (bK U (bF (pE (dvs:=[.non]) (dds:=[D.non]) Id (hr.mono (by decide)) (aK (aJ 5) bG) (hd:=.cons rfl .nil) (hsc:=.cons .non .nil)) (bF (v_ 4) (aK (bE (qU (dvs:=[.non]) (dds:=[D.non]) Ty (hr.mono (by decide)) (aK (aJ 4) (aK (aJ 5) bG)) (hd:=.cons rfl .nil) (hsc:=.cons .non .nil))) (aK (bE (gT Z (bE (iy (aJ 10) iB)) iB)) bG)))))))) (aM (bU dN)
   aW)
   aW)
   (aM (bX (i9 (gG (bE (bK U (bF (HR (dvs:=[.non]) (dds:=[D.non]) IO (hr.mono (by decide)) (hd:=.cons rfl .nil) (hsc:=.cons .non .nil)) (bF (v_ 4) (aK (bE (qU (dvs:=[.non]) (dds:=[D.non]) WX (hr.mono (by decide)) (aK (aJ 4) bG) (hd:=.cons rfl .nil) (hsc:=.cons .non .nil))) (aK (bE (ox (aJ 10) iB)) bG)))))))) (aM (bU dN)
   aW)
   aW)
   (aM (cZ 11 js.nd (bK KK (aK (aJ 0) (aK iB (aK (aJ 2) (aK (aJ 3) bG))))))
   (aM (bX (i9 (gG (bE (bK U (bF (v_ 8) (bF (v_ 11) (aK (bE (bK ST (aK (aJ 11) (aK (aJ 5) (bF (v_ 6) bG))))) (aK (bE (gT Z (bE (iy (aJ 10) iB)) iB)) bG)))))))) (aM (bU dN)
   aW)
   aW)
   (aM (bX (i9 (gG (bE (bK U (bF (v_ 9) (bF (v_ 11) (aK (bE (bK Tm (aK (aJ 11) (bF (v_ 6) bG)))) (aK (bE (ox (aJ 10) iB)) bG)))))))) (aM (bU dN)
   aW)
   aW)
   (aM (jn I_ rfl (j3 (by rfl) T.b_range (cK iB cL)) (c8 12 js.nd) (aM (bX (dP Z (bE (bK Cl (bF (pE (dds:=[]) LT (hr.mono (by decide)) (aK (bE (jb (aJ 6) (SO.toB (g6 (df nA de))))) bG)) (bF (v_ 4) (aK (aJ 12) bG))))) (bE kM)) (aM (bU dN)
   aW)
   aW)
   (aM (bX (dP Z (bE (bK Cl (bF (pE (dds:=[]) LE (hr.mono (by decide)) (aK (aJ 5) (aK (bE (At (aJ 6) (AT iB) AS)) bG))) (bF (v_ 4) (aK (bE (Au iB (aJ 12))) bG))))) (bE kM)) (aM (bU dN)
   aW)
   aW)
   aW)))
   (aM (bU (bK WY (bF (v_ 4) (aK (aJ 2) (aK (aJ 3) bG)))))
   aW)))))))))))))))))))))))
end Law
namespace Law
open PySem L2 DL
abbrev nD(k:Nat):D:=.int (k:Int)
abbrev LN(l:List Nat):D:=.lst (l.map nD)
abbrev TN(l:List Nat):D:=.tup (l.map nD)
def oD:Option Nat->D
|none=>.non
|some k=>nD k
abbrev WD(rz:List (List Nat)):D:=.tup (rz.map TN)
abbrev OD(oz:List (Option Nat)):D:=.tup (oz.map oD)
theorem oq{ds:List D}(h:ds.length<=1000):sz ds=some ds:=Mx (L_ h (by rw[Qaa];decide))
@[simp] theorem addA_int(a b:Int):addA (.int a) (.int b)=some (.int (a+b)):=rfl
theorem HK{a b:Int}(h:i5 a b):dS (.int a) (.int b)=some (.int (a*b)):=by rw[dS,intsC_int,if_pos h]
theorem A9{a b:Int}(h:0<b):cQ (.int a) (.int b)=some (.int (a%b)):=by rw[cQ,intsC_int,if_pos h]
theorem QW{a b:Int}(h:jL a b):jO (.int a) (.int b)=some (.int (a/b)):=by rw[jO,intsC_int,if_pos h]
theorem aZ{s1 s2:FS}{r r':aQ}(h:s1 r=.nx r'):aG s1 s2 r=s2 r':=by unfold aG;rw[h]
theorem cG{s1 s2:FS}{r:aQ}{d:D}(h:s1 r=.rt d):aG s1 s2 r=.rt d:=by unfold aG;rw[h]
theorem cH{m:List Md}{i:Nat}{f:FE}{r:aQ}{d:D}(h:f r=.ok d):aR m i f r=.nx (r.set i (some d)):=by unfold aR;rw[h];rfl
theorem cP{m:List Md}{f:FE}{r:aQ}{d:D}(h:f r=.ok d):aS m f r=.rt d:=by unfold aS;rw[h];rfl
theorem o8{m:List Md}{p:FQ}{s1 s2:FS}{r:aQ}{b:Bool}(h:p r=.ok b):dj m p s1 s2 r=if b=true then s1 r else s2 r:=by unfold dj;rw[h];rfl
theorem eU{m:List Md}{p:FQ}{s1 s2:FS}{r:aQ}(h:p r=.ok true):dj m p s1 s2 r=s1 r:=by rw[o8 h,if_pos rfl]
theorem cR{m:List Md}{p:FQ}{s1 s2:FS}{r:aQ}(h:p r=.ok false):dj m p s1 s2 r=s2 r:=by rw[o8 h,if_neg d_]
theorem E2{p:FQ}{f f':FE}{r:aQ}(h:p r=.ok true):oS p f f' r=f r:=by unfold oS;rw[h];rfl
theorem E1{p:FQ}{f f':FE}{r:aQ}(h:p r=.ok false):oS p f f' r=f' r:=by unfold oS;rw[h];rfl
theorem nI{fl:aQ->Res (List D)}{r:aQ}{ds:List D}(h:fl r=.ok ds)(hl:ds.length<=1000):lb fl r=.ok (.tup ds):=by unfold lb;rw[h,bind_ok,oq hl];rfl
theorem iz{fl:aQ->Res (List D)}{r:aQ}{ds:List D}(h:fl r=.ok ds)(hl:ds.length<=1000):fW fl r=.ok (.lst ds):=by unfold fW;rw[h,bind_ok,oq hl];rfl
theorem kU{ds:List D}{d:D}(h:ds.length<=1000):appD (.lst ds) [d]=some (.lst (ds++[d])):=by show(if ds.length<sizeLine then some (D.lst (ds++[d]))else none)=_;rw[if_pos (by rw[Qaa];omega)]
theorem bN{fl:aQ->Res (List D)}{dds zs:List D}{F:List D->Res D}{r:aQ}{d:D}(h1:fl r=.ok zs)(h2:F (zs++dds)=.ok d):bI fl dds F r=.ok d:=by unfold bI;rw[h1,bind_ok,h2];rfl
theorem gE{f:FE}{k:D->Option D}{r:aQ}{a d:D}(h1:f r=.ok a)(h2:k a=some d):f1 f k r=.ok d:=by unfold f1;rw[h1,bind_ok,h2];rfl
theorem aX{f f':FE}{k:D->D->Option D}{r:aQ}{a b d:D}(h1:f r=.ok a)(h2:f' r=.ok b)(h3:k a b=some d):f2 f f' k r=.ok d:=by unfold f2;rw[h1,bind_ok,h2,bind_ok,h3];rfl
theorem dc{fl:aQ->Res (List D)}{k:List D->Option D}{r:aQ}{ds:List D}{d:D}(h1:fl r=.ok ds)(h2:k ds=some d):fC fl k r=.ok d:=by unfold fC;rw[h1,bind_ok,h2];rfl
theorem aL{f:FE}{fl:aQ->Res (List D)}{r:aQ}{d:D}{ds:List D}(h1:f r=.ok d)(h2:fl r=.ok ds):aI f fl r=.ok (d::ds):=by unfold aI;rw[h1,bind_ok,h2];rfl
theorem aO{r:aQ}:aH r=.ok []:=rfl
theorem cW{f:FE}{r:aQ}{b:Bool}(h:f r=.ok (.bl b)):bW f r=.ok b:=by unfold bW;rw[h];rfl
theorem eZ{f:FE}{r:aQ}{d:D}{b:Bool}(h:f r=.ok d)(h2:lS d=some b):c6 f r=.ok b:=by unfold c6;rw[h,bind_ok,h2];rfl
theorem iL{p:FQ}{r:aQ}{b:Bool}(h:p r=.ok b):dF p r=.ok (! b):=by unfold dF;rw[h];rfl
theorem nC{p q:FQ}{r:aQ}(h:p r=.ok true):eV p q r=q r:=by unfold eV;rw[h];rfl
theorem pi{p q:FQ}{r:aQ}(h:p r=.ok false):eV p q r=.ok false:=by unfold eV;rw[h];rfl
theorem Ez{p q:FQ}{r:aQ}(h:p r=.ok true):gJ p q r=.ok true:=by unfold gJ;rw[h];rfl
theorem dR{p q:FQ}{r:aQ}(h:p r=.ok false):gJ p q r=q r:=by unfold gJ;rw[h];rfl
theorem A2{f f':FE}{r:aQ}(h:f r=.ok (.bl true)):gQ f f' r=f' r:=by unfold gQ;rw[h];rfl
theorem NO{f f':FE}{r:aQ}(h:f r=.ok (.bl false)):gQ f f' r=.ok (.bl false):=by unfold gQ;rw[h];rfl
theorem fL{m:List Md}{fi:FI}{ft:FT}{b:FS}{r:aQ}{ds:List D}(h:fi r=.ok ds):eJ m fi ft b r=bM ft b ds r:=by unfold eJ;rw[h];rfl
theorem mW{f:FE}{r:aQ}{d:D}{ds:List D}(h:f r=.ok d)(h2:dy d=some ds):bP dy f r=.ok ds:=by unfold bP;rw[h,bind_ok,h2];rfl
theorem gq{ft:FT}{b:FS}{r:aQ}:bM ft b [] r=.nx r:=by unfold bM;rfl
theorem fH{ft:FT}{b:FS}{r r1 r':aQ}{d:D}{ds:List D}(h1:ft d r=some r1)(h2:b r1=.nx r'):bM ft b (d::ds) r=bM ft b ds r':=by
 conv=>lhs;unfold bM
 simp only[h1,h2]
theorem Ga{ft:FT}{b:FS}{r r1:aQ}{d v:D}{ds:List D}(h1:ft d r=some r1)(h2:b r1=.rt v):bM ft b (d::ds) r=.rt v:=by
 conv=>lhs;unfold bM
 simp only[h1,h2]
theorem vP{m:List Md}{p:FQ}{b:FS}{n:Nat}{r:aQ}(h:p r=.ok false):gp m p b (n+1) r=.nx r:=by unfold gp;rw[h];rfl
theorem vQ{m:List Md}{p:FQ}{b:FS}{n:Nat}{r r':aQ}(h:p r=.ok true)(h2:b r=.nx r'):gp m p b (n+1) r=gp m p b n r':=by
 conv=>lhs;unfold gp
 rw[h,onE_ok,if_pos rfl,h2]
theorem ja{T:String}{m:List Md}{i:Nat}{fl:aQ->Res (List D)}{mk:D->List D->Option D}{r:aQ}{d d':D}{ds:List D}(h1:r[i]? = some (some d))(h2:zZ T d=true)(h3:fl r=.ok ds)(h4:mk d ds=some d'):dg T m i fl mk r=.nx (r.set i (some d')):=by unfold dg;rw[h1];simp only[h2,if_true,h3,onE_ok,h4]
theorem lC{m:List Md}{i:Nat}{fk fv:FE}{r:aQ}{d k v d':D}(h1:r[i]? = some (some d))(h2:fv r=.ok v)(h3:fk r=.ok k)(h4:fP d k v=some d'):DL.putF m i fk fv r=.nx (r.set i (some d')):=by unfold DL.putF;rw[h2,onE_ok];simp only[h1,h3,onE_ok,h4]
theorem OV{fa fb fc:FE}{k k':D->D->Option D}{r:aQ}{x y w d:D}(h1:fa r=.ok x)(h2:fb r=.ok y)(h3:k x y=some (.bl true))(h4:fc r=.ok w)(h5:k' y w=some d):qW fa fb fc k k' r=.ok d:=by unfold qW;rw[h1,bind_ok,h2,bind_ok,h3,opt_some,bind_ok];show(fc r).bind _=_;rw[h4,bind_ok,h5];rfl
theorem RE{ft:FT}{q:FQ}{fe:FE}{r0:aQ}:iI ft q fe r0 []=.ok []:=by unfold iI;rfl
theorem Jl{ft:FT}{q:FQ}{fe:FE}{r0:aQ}{α:Type}(e:α->D)(keep:α->Bool)(g:α->D):∀(l:List α),(∀a∈l,∃r1,ft (e a) r0=some r1/\q r1=.ok (keep a)/\(keep a=true->fe r1=.ok (g a)))->iI ft q fe r0 (l.map e)=.ok ((l.filter keep).map g)
|[],_=>RE
|a::l,h=>by
  obtain⟨r1,h1,h2,h3⟩:=h a j_;have ih:=Jl (ft:=ft) (q:=q) (fe:=fe) (r0:=r0) e keep g l fun b hb=>h b (k_ _ hb);rw[o_]
  conv=>lhs;unfold iI
  rw[h1,opt_some,bind_ok,h2,bind_ok];cases k:keep a with
 |true=>rw[if_pos rfl,h3 k,bind_ok,ih,bind_ok,Qau,if_pos k];rfl
 |false=>rw[if_neg d_,ih,Qau,if_neg (by rw[k];exact d_)]
theorem kW{nl:Nat}{cap:List Nat}{fi:FI}{ft:FT}{q:FQ}{fe:FE}{r:aQ}{α:Type}{l:List α}(e:α->D)(keep:α->Bool)(g:α->D)(h1:fi r=.ok (l.map e))(hl:l.length<=1000)(h:∀a∈l,∃r1,ft (e a) (c7 nl cap r)=some r1/\q r1=.ok (keep a)/\(keep a=true->fe r1=.ok (g a))):eF nl cap fi ft q fe r=.ok (.lst ((l.filter keep).map g)):=by unfold eF;rw[h1,bind_ok,oq (by simpa using hl),opt_some,bind_ok,Jl e keep g l h,noXL_ok,bind_ok]
theorem Wm(k:Nat):EC (.int 0) (nD k)=some (.bl true):=by show some (D.bl (decide ((0:Int)<=(k:Int))))=_;rw[decide_eq_true (Qcs k)]
theorem nz(a b:Nat):jh (nD a) (nD b)=some (.bl (decide (a<b))):=by show some (D.bl (decide ((a:Int)<(b:Int))))=_;simp only[Qe0]
theorem mE(a b:Nat):jj (nD a) (nD b)=some (.bl (decide (b<a))):=by show some (D.bl (decide ((b:Int)<(a:Int))))=_;simp only[Qe0]
theorem i8(a b:Nat):eqD (nD a) (nD b)=some (.bl (decide (a=b))):=by
 unfold eqD;rw[eqB_int];show some (D.bl ((a:Int)==(b:Int)))=_;have:((a:Int)==(b:Int))=decide (a=b):=by rw[T_,beq_iff_eq,decide_eq_true_iff];exact Qcj
 rw[this]
theorem Wp(a b:Nat):neD (nD a) (nD b)=some (.bl (! decide (a=b))):=by
 unfold neD;rw[eqB_int];show some (D.bl (!((a:Int)==(b:Int))))=_;have:((a:Int)==(b:Int))=decide (a=b):=by rw[T_,beq_iff_eq,decide_eq_true_iff];exact Qcj
 rw[this]
theorem cU{B:FS}{n:Nat}{ds:List D}{d:D}(h:B (bL n ds)=.rt d):aT false (B (bL n ds))=.ok d:=by rw[h];rfl
abbrev kI(k:Nat):bJ:=Sum.inl (k:Int)
theorem uV(kvs:List (Nat×D))(k:Nat):dE (kvs.map fun p=>(kI p.1,p.2)) (kI k)=decide (k∈kvs.map (·.1)):=by
 unfold dE;rw[Qc6,T_,QcR,decide_eq_true_iff,A_];constructor
 .rintro⟨p,h1,h2⟩
  refine⟨p,h1,?_⟩;simp only[QbB,decide_eq_true_eq]at h2;have:((p.1:Nat):Int)=(k:Int):=Qfc h2;exact Int.ofNat.inj this
 .rintro⟨p,h1,rfl⟩
  exact⟨p,h1,by simp⟩
theorem Il(kvs:List (Nat×D))(k:Nat)(d:D)(h:k∉kvs.map (·.1)):dQ (kvs.map fun p=>(kI p.1,p.2)) (kI k) d=(kvs++[(k,d)]).map fun p=>(kI p.1,p.2):=by unfold dQ;have e:((kvs.map fun p=>(kI p.1,p.2)).any fun kv=>decide (kv.1=kI k))=decide (k∈kvs.map (·.1)):=uV kvs k;rw[e,decide_eq_false h,if_neg d_,P_];rfl
@[simp] theorem e_skip(r:aQ):aV r=.nx r:=rfl
@[simp] theorem e_tupL(ds:List D):tupD [.lst ds]=some (.tup ds):=rfl
@[simp] theorem e_valsD(kvs:List (bJ×D)):AD (.dic kvs)=some (.lst (kvs.map (·.2))):=rfl
theorem pb{ds:List D}{i:Nat}{d:D}(h:ds[i]? = some d):bY (.tup ds) (nD i)=some d:=by have hl:i<ds.length:=(m_.mp h).1;show iH ds (i:Int)=some d;unfold iH jE;rw[if_pos (Qcs i),if_pos (by omega)];simpa using h
theorem uI{ds:List D}{i:Nat}{d:D}(h:ds[i]? = some d):bY (.lst ds) (nD i)=some d:=by have hl:i<ds.length:=(m_.mp h).1;show iH ds (i:Int)=some d;unfold iH jE;rw[if_pos (Qcs i),if_pos (by omega)];simpa using h
@[simp] theorem ixA_L0(d:D)(ds:List D):bY (.lst (d::ds)) (.int 0)=some d:=uI (i:=0) rfl
@[simp] theorem ixA_T0(d:D)(ds:List D):bY (.tup (d::ds)) (.int 0)=some d:=pb (i:=0) rfl
theorem uH{kvs:List (bJ×D)}{k:Nat}{d:D}(h:cS kvs (kI k)=some d):bY (.dic kvs) (nD k)=some d:=h
theorem tH(l:List Nat)(k:Nat):(l.map nD).any (fun y=>eqs y (nD k))=decide (k∈l):=by
 rw[Qc6,T_,QcR,decide_eq_true_iff];constructor
 .rintro⟨x,h1,h2⟩
  have:(((x:Nat):Int)==(k:Int))=true:=h2;have:=Qcj.mp (QaQ this);subst this;exact h1
 .intro h;exact⟨k,h,by show(((k:Nat):Int)==(k:Int))=true;simp⟩
theorem An(l:List Nat):(l.map nD).all eG=true:=by rw[Qbb];intro x hx;obtain⟨k,_,rfl⟩:=A_.mp hx;rfl
theorem Wf(l:List Nat)(k:Nat):ji (nD k) (LN l)=some (.bl (decide (k∈l))):=by show(if eG (nD k)=true/\(l.map nD).all eG=true then some ((l.map nD).any fun y=>eqs y (nD k))else none).map D.bl=_;rw[if_pos ⟨rfl,An l⟩,tH];rfl
theorem Nc(l:List Nat)(k:Nat):fV (nD k) (LN l)=some (.bl (! decide (k∈l))):=by show(if eG (nD k)=true/\(l.map nD).all eG=true then some ((l.map nD).any fun y=>eqs y (nD k))else none).map (fun b=>D.bl (! b))=_;rw[if_pos ⟨rfl,An l⟩,tH];rfl
theorem UM(k:Nat):nb [nD k]=.ok (.bl true):=rfl
theorem Kr(k b:Nat):rQ [nD k,nD b]=.ok (.bl (decide (k<b))):=by refine cU (B:=Cm) (n:=2) ?_;unfold Cm;refine cG (cP ?_);rw[A2 (bN (aL (d:=nD k) rfl aO) (UM k))];exact OV rfl rfl (Wm k) rfl (nz k b)
theorem nV{α:Type}(f:α->D)(l:List α):lenD [.tup (l.map f)]=some (nD l.length):=by show some (D.int ((l.map f).length:Int))=_;rw[l_]
theorem m4{α:Type}(f:α->D)(l:List α):lenD [.lst (l.map f)]=some (nD l.length):=by show some (D.int ((l.map f).length:Int))=_;rw[l_]
theorem Ia{α:Type}(f:α->bJ×D)(l:List α):lenD [.dic (l.map f)]=some (nD l.length):=by show some (D.int ((l.map f).length:Int))=_;rw[l_]
theorem BV(n:Nat):eqD (nD n) (nD n)=some (.bl true):=by have e:=i8 n n;rw[decide_eq_true rfl]at e;exact e
theorem FL(n:Nat):fq 0 n=(e_ n).map nD:=by unfold fq;refine Qam fun i _=>?_;show D.int (0+(i:Int))=D.int (i:Int);rw[Int.zero_add]
theorem Rb(j:Int):ll [.int j]=if-(2^62)<=j/\j<2^62/\j.toNat<=sizeLine then some (.lst (fq 0 j.toNat))else none:=rfl
theorem uY{n:Nat}(h:n<=1000):ll [nD n]=some (LN (e_ n)):=by
 have hs:(n:Int).toNat<=sizeLine:=by rw[QaR,Qaa];omega
 rw[Rb,if_pos ⟨by omega,by omega,hs⟩,QaR,FL]
theorem P1(j:Int):dO [.int j]=if-(2^62)<=j/\j<2^62 then some (fq 0 j.toNat)else none:=rfl
theorem jT{n:Nat}(h:n<=1000):dO [nD n]=some ((e_ n).map nD):=by rw[P1,if_pos ⟨by omega,by omega⟩,QaR,FL]
theorem jV{fl:aQ->Res (List D)}{k:List D->Option (List D)}{r:aQ}{ds es:List D}(h1:fl r=.ok ds)(h2:k ds=some es):dX k fl r=.ok es:=by unfold dX;rw[h1,bind_ok,h2];rfl
theorem CT{p:Nat->Bool}:∀(l:List Nat),l.find? p=(l.filter p).head?
|[]=>rfl
|a::l=>by rw[X_,Qau];cases h:p a with
 |true=>simp
 |false=>simpa using CT l
theorem V9(o:Option Nat)(x:Nat):eqD (oD o) (nD x)=some (.bl (decide (o=some x))):=by cases o with
|none=>unfold eqD oD;rw[eqB_non_int];simp
|some k=>show eqD (nD k) (nD x)=_;rw[i8];simp
def own(oz:List (Option Nat))(h:Nat):Option Nat:=(oz[h]?).join
theorem MK{oz:List (Option Nat)}{h:Nat}(hh:h<oz.length):(oz.map oD)[h]? = some (oD (own oz h)):=by rw[u_,f_ hh];unfold own;rw[f_ hh];rfl
theorem Cy{row:List Nat}{rest:List (List Nat)}:eL [WD (row::rest)]=.ok (nD row.length):=by refine cU (B:=C4) (n:=1) ?_;unfold C4;exact cG (cP (dc (aL (aX (a:=WD (row::rest)) (b:=.int 0) rfl rfl (ixA_T0 _ _)) aO) (nV _ _)))
theorem Ir{row things:List Nat}(h:∃x∈row,x∈things)(hl:row.length<=1000):iF [TN row,LN things]=.ok (nD (Rg.best row things)):=by
 refine cU (B:=sd) (n:=2) ?_;unfold sd;have hc:(eF 1 [1] (bP dy (gv 0)) (bS 0) (bW (f2 (gv 0) (gv 1) ji)) (gv 0)) [some (TN row),some (LN things)]=.ok (LN (row.filter fun x=>decide (x∈things))):=by
  refine kW nD (fun x=>decide (x∈things)) nD (l:=row) rfl hl fun a _=>⟨[some (nD a),some (LN things)],rfl,?_,fun _=>rfl⟩
  exact cW (aX (a:=nD a) (b:=LN things) rfl rfl (Wf _ _))
 have hb:∃t,(row.filter fun x=>decide (x∈things))=Rg.best row things::t:=by unfold Rg.best;rw[CT];cases e:row.filter fun x=>decide (x∈things)with
 |nil=>obtain⟨x,h1,h2⟩:=h;have:x∈row.filter fun x=>decide (x∈things):=D_.mpr ⟨h1,by simpa using h2⟩;rw[e]at this;cases this
 |cons a t=>exact⟨t,rfl⟩
 obtain⟨t,ht⟩:=hb;rw[ht]at hc;exact cG (cP (aX hc (b:=.int 0) rfl (ixA_L0 _ _)))
abbrev hV(pre:List Nat):D:=.dic ((pre.map fun k=>(k,D.bl true)).map fun p=>(kI p.1,p.2))
theorem Ha{b k:Nat}{U:D}{pre:List Nat}(hk:k∉pre)(hb:k<b)(hl:pre.length<1000):sx [some U,some (nD b),some (hV pre),some (nD pre.length),some (nD k)]=.nx [some U,some (nD b),some (hV (pre++[k])),some (nD pre.length),some (nD k)]:=by
 have c2:ji (nD k) (hV pre)=some (.bl false):=by
  show(some (dE _ (kI k))).map D.bl=_;rw[uV,R_];have:decide (k∈pre.map ((fun p:Nat×D=>p.1)∘fun k=>(k,D.bl true)))=false:=by rw[decide_eq_false_iff_not];simpa[QbV]using hk
  rw[this];rfl
 have c3:fP (hV pre) (nD k) (.bl true)=some (hV (pre++[k])):=by show(if _ then some (D.dic (dQ _ (kI k) (.bl true)))else none)=_;rw[if_pos (by rw[l_,l_,Qaa];omega),Il _ _ _ (by rw[R_];simpa[QbV]using hk)];simp
 have c1:decide (k<b)=true:=decide_eq_true (hb);unfold sx;have Y:(gJ (dF (c6 (bI (aI (gv 4) (aI (gv 1) aH)) [] rQ))) (bW (f2 (gv 4) (gv 2) ji))) [some U,some (nD b),some (hV pre),some (nD pre.length),some (nD k)]=.ok false:=by have h0:=Kr k b;rw[c1]at h0;rw[dR (iL (eZ (b:=true) (bN (aL (d:=nD k) rfl (aL (d:=nD b) rfl aO)) h0) rfl))];exact cW (aX (a:=nD k) (b:=hV pre) rfl rfl c2)
 refine(aZ (o8 Y)).trans ?_;exact aZ (lC (d:=hV pre) (k:=nD k) rfl rfl rfl c3)
theorem G9(b:Nat)(Y:D):∀(U pre:List Nat)(x y:Option D),(pre++U).Nodup->(∀k∈U,k<b)->(pre++U).length<=1000 ->∃x' y',bM (lc (fJ (bS 3) (fJ (bS 4) kJ))) sx (eu pre.length (U.map nD)) [some Y,some (nD b),some (hV pre),x,y]=.nx [some Y,some (nD b),some (hV (pre++U)),x',y']
|[],pre,x,y,_,_,_=>⟨x,y,by rw[W_];exact gq⟩
|k::U,pre,x,y,hn,hb,hl=>by have hk:k∉pre:=fun z=>(QbW.mp hn).2.2 k z k j_ rfl;obtain⟨x',y',ih⟩:=G9 b Y U (pre++[k]) (some (nD pre.length)) (some (nD k)) (by simpa using hn) (fun j hj=>hb j (k_ _ hj)) (by simpa using hl);refine⟨x',y',?_⟩;rw[show(pre++[k]).length=pre.length+1 by simp]at ih;rw[show pre++k::U=(pre++[k])++U by simp,<-ih];show bM _ _ (.tup [.int ((pre.length:Nat):Int),nD k]::eu (pre.length+1) (U.map nD)) _=_;refine fH (r1:=[some Y,some (nD b),some (hV pre),some (nD pre.length),some (nD k)]) rfl ?_;exact Ha hk (hb k j_) (by simp at hl;omega)
theorem Gc{b z:Nat}(Y:D)(hz:z<b):∀(U pre:List Nat)(x y:Option D),(pre++U).Nodup->(∀k∈U,k<b)->(pre++U).length<=900->z∈pre++U ->bM (lc (fJ (bS 3) (fJ (bS 4) kJ))) sx (eu pre.length ((U++[z]).map nD)) [some Y,some (nD b),some (hV pre),x,y]=.rt (nD (pre.length+U.length))
|[],pre,x,y,_,_,_,hm=>by
  refine Ga (d:=.tup [.int ((pre.length:Nat):Int),nD z]) (r1:=[some Y,some (nD b),some (hV pre),some (nD pre.length),some (nD z)]) rfl ?_;refine cG ((eU ?_).trans (cG (cP rfl)));have h0:=Kr z b;rw[decide_eq_true hz]at h0;refine(dR (iL (b:=true) (eZ (bN (aL (d:=nD z) rfl (aL (d:=nD b) rfl aO)) h0) rfl))).trans (cW (aX (a:=nD z) (b:=hV pre) rfl rfl ?_));show(some (dE _ (kI z))).map D.bl=_;rw[uV,R_];have:decide (z∈pre.map ((fun p:Nat×D=>p.1)∘fun k=>(k,D.bl true)))=true:=by rw[decide_eq_true_iff];simpa[QbV]using hm
  rw[this];rfl
|k::U,pre,x,y,hn,hb,hl,hm=>by have hk:k∉pre:=fun w=>(QbW.mp hn).2.2 k w k j_ rfl;have ih:=Gc (b:=b) Y hz U (pre++[k]) (some (nD pre.length)) (some (nD k)) (by simpa using hn) (fun j hj=>hb j (k_ _ hj)) (by simpa using hl) (by simpa using hm);rw[show(pre++[k]).length=pre.length+1 by simp]at ih;rw[show pre.length+(k::U).length=pre.length+1+U.length by simp;omega,<-ih];show bM _ _ (.tup [.int ((pre.length:Nat):Int),nD k]::eu (pre.length+1) ((U++[z]).map nD)) _=_;exact fH (r1:=[some Y,some (nD b),some (hV pre),some (nD pre.length),some (nD k)]) rfl (Ha hk (hb k j_) (by simp at hl;omega))
theorem Lb{l:List Nat}{b:Nat}(hn:l.Nodup)(hb:∀k∈l,k<b)(hl:l.length<=1000):oi [LN l,nD b]=.ok (nD l.length):=by obtain⟨x',y',h⟩:=G9 b (LN l) l [] none none hn hb hl;refine cU (B:=sm) (n:=5) ?_;unfold sm;refine(aZ (r':=[some (LN l),some (nD b),some (hV []),none,none]) rfl).trans ?_;refine(aZ ((fL (ds:=eu 0 (l.map nD)) rfl).trans h)).trans ?_;exact cG (cP (dc (aL (d:=LN l) rfl aO) (m4 _ _)))
theorem Uk{l:List Nat}{n:Nat}(hn:l.Nodup)(hb:∀k∈l,k<n)(h8:l.length<=1000):xV [LN l,nD n]=.ok (.bl true):=by refine cU (B:=Dn) (n:=2) ?_;unfold Dn;exact cG (cP (aX (a:=nD l.length) (b:=nD l.length) (bN (aL (d:=LN l) rfl (aL (d:=nD n) rfl aO)) (Lb hn hb h8)) (dc (aL (d:=LN l) rfl aO) (m4 _ _)) (BV _)))
theorem P3{l:List Nat}{n:Nat}(hn:l.Nodup)(hb:∀k∈l,k<n)(hl:l.length=n)(h8:n<=1000):og [LN l,nD n]=.ok (.bl true):=by refine cU (B:=sw) (n:=2) ?_;unfold sw;subst hl;refine cG (cP ?_);rw[A2 (aX (a:=nD l.length) (b:=nD l.length) (dc (aL (d:=LN l) rfl aO) (m4 _ _)) rfl (BV _))];exact bN (aL (d:=LN l) rfl (aL (d:=nD l.length) rfl aO)) (Uk hn hb h8)
theorem KS{rz:List (List Nat)}(h:rz.length<=1000):k4 [WD rz,.non]=.ok (LN (e_ rz.length)):=by refine cU (B:=pT) (n:=2) ?_;unfold pT;refine cG ((o8 (b:=true) rfl).trans ?_);rw[if_pos rfl];exact cG (cP (dc (ds:=[nD rz.length]) (aL (dc (aL (d:=WD rz) rfl aO) (nV _ _)) aO) (uY h)))
theorem Jx{rz:List (List Nat)}{l:List Nat}(hn:l.Nodup)(hb:∀k∈l,k<rz.length)(hl:l.length=rz.length)(h8:rz.length<=1000):k4 [WD rz,LN l]=.ok (LN l):=by refine cU (B:=pT) (n:=2) ?_;unfold pT;refine(aZ (r':=[some (WD rz),some (LN l)]) ((o8 (b:=false) rfl).trans rfl)).trans ?_;refine(aZ (r':=[some (WD rz),some (LN l)]) ((o8 (b:=false) (iL (b:=true) (eZ (bN (aL (d:=LN l) rfl (aL (dc (aL (d:=WD rz) rfl aO) (nV _ _)) aO)) (P3 hn hb hl h8)) rfl))).trans rfl)).trans ?_;exact cG (cP (dc (aL (d:=LN l) rfl aO) rfl))
theorem Hc(oz:List (Option Nat))(line:List Nat)(x:Nat):∀(l:List Nat)(y:Option D),(∀h∈l,h<oz.length) ->(match l.find? (fun h=>decide (own oz h=some x))with
  |some h=>bM (bS 3) sA (l.map nD) [some (OD oz),some (LN line),some (nD x),y]=.rt (nD h)
  |none=>∃y',bM (bS 3) sA (l.map nD) [some (OD oz),some (LN line),some (nD x),y]=.nx [some (OD oz),some (LN line),some (nD x),y'])
|[],y,_=>⟨y,gq⟩
|h::l,y,hl=>by have c:(bW (f2 (f2 (gv 0) (gv 3) bY) (gv 2) eqD)) [some (OD oz),some (LN line),some (nD x),some (nD h)]=.ok (decide (own oz h=some x)):=cW (aX (aX (a:=OD oz) (b:=nD h) rfl rfl (pb (MK (hl h j_)))) (b:=nD x) rfl (V9 _ _));rw[X_];cases e:decide (own oz h=some x)with
 |true=>rw[e]at c;refine Ga (r1:=[some (OD oz),some (LN line),some (nD x),some (nD h)]) rfl ?_;exact cG ((eU c).trans (cG (cP (d:=nD h) rfl)))
 |false=>rw[e]at c;have ih:=Hc oz line x l (some (nD h)) fun k hk=>hl k (k_ _ hk);have st:bM (bS 3) sA ((h::l).map nD) [some (OD oz),some (LN line),some (nD x),y]=bM (bS 3) sA (l.map nD) [some (OD oz),some (LN line),some (nD x),some (nD h)]:=fH (r1:=[some (OD oz),some (LN line),some (nD x),some (nD h)]) rfl ((aZ (cR c)).trans rfl);rw[st];exact ih
theorem S0{oz:List (Option Nat)}{line:List Nat}{x:Nat}(hl:∀h∈line,h<oz.length):xZ [OD oz,LN line,nD x]=.ok (oD (line.find? fun h=>decide (own oz h=some x))):=by refine cU (B:=Dq) (n:=4) ?_;unfold Dq;have h:=Hc oz line x line none hl;cases e:line.find? fun h=>decide (own oz h=some x)with
|some k=>rw[e]at h;exact cG ((fL (ds:=line.map nD) rfl).trans h)
|none=>rw[e]at h;obtain⟨y',h⟩:=h;exact(aZ ((fL (ds:=line.map nD) rfl).trans h)).trans (cG (cP (d:=.non) rfl))
theorem Wj(o:Option Nat):qh (oD o) .non=some (.bl (decide (o=none))):=by cases o <;> rfl
theorem Uf{oz:List (Option Nat)}{line:List Nat}{x:Nat}(hl:∀h∈line,h<oz.length)(hne:line≠[]):sv [OD oz,LN line,nD x]=.ok (nD ((line.find? fun h=>decide (own oz h=some x)).getD (line.headD 0))):=by refine cU (B:=DP) (n:=4) ?_;unfold DP;refine(aZ (cH (bN (aL (d:=OD oz) rfl (aL (d:=LN line) rfl (aL (d:=nD x) rfl aO))) (S0 hl)))).trans ?_;refine cG (cP ?_);have c:=cW (aX (f:=gv 3) (f':=fun _=>Res.ok D.non) (r:=[some (OD oz),some (LN line),some (nD x),some (oD (line.find? fun h=>decide (own oz h=some x)))]) rfl rfl (Wj (line.find? fun h=>decide (own oz h=some x))));cases e:line.find? fun h=>decide (own oz h=some x)with
|some k=>rw[e,decide_eq_false (by simp)]at c;exact(E1 c).trans rfl
|none=>rw[e,decide_eq_true rfl]at c;refine(E2 c).trans ?_;cases line with
 |nil=>exact absurd rfl hne
 |cons a l=>exact aX (a:=LN (a::l)) (b:=.int 0) rfl rfl (ixA_L0 _ _)
abbrev KD(kvs:List (Nat×Nat)):D:=.dic (kvs.map fun p=>(kI p.1,nD p.2))
abbrev FD(l:List Nat)(f:Nat->Nat):List (Nat×Nat):=l.map fun h=>(h,f h)
theorem uW{a b:Nat}(h:kI a=kI b):a=b:=Qcj.mp (Qfc h)
theorem wS:∀{kvs:List (Nat×Nat)}{h:Nat}{f:Nat->Nat},(∀p∈kvs,p.2=f p.1)->h∈kvs.map (·.1)->cS (kvs.map fun p=>(kI p.1,nD p.2)) (kI h)=some (nD (f h))
|[],_,_,_,hh=>by cases hh
|p::kvs,h,f,hf,hh=>by
  by_cases e:p.1=h
  .have:=hf p j_;subst e;simp[cS,X_,this]
  .have hne:¬ kI p.1=kI h:=fun z=>e (uW z);have hh':h∈kvs.map (·.1):=by
    rcases t_.mp hh with z|z
    .exact absurd z.symm e
    .exact z
   have ih:=wS (f:=f) (fun q hq=>hf q (k_ _ hq)) hh';have e1:cS ((p::kvs).map fun p=>(kI p.1,nD p.2)) (kI h)=cS (kvs.map fun p=>(kI p.1,nD p.2)) (kI h):=by simp only[cS,o_,X_];rw[decide_eq_false hne]
   rw[e1];exact ih
theorem Bt(l:List Nat)(f:Nat->Nat):(FD l f).map (·.1)=l:=by simp[FD,QbV]
theorem qX{l:List Nat}{f:Nat->Nat}{h:Nat}(hh:h∈l):bY (KD (FD l f)) (nD h)=some (nD (f h)):=uH (wS (f:=f) (fun p hp=>by obtain⟨x,_,rfl⟩:=A_.mp hp;rfl) (by rw[Bt];exact hh))
def putN(kvs:List (Nat×Nat))(k v:Nat):List (Nat×Nat):=if k∈kvs.map (·.1)then kvs.map fun p=>if p.1=k then(p.1,v)else p else kvs++[(k,v)]
theorem tt(kvs:List (Nat×Nat))(k:Nat):((kvs.map fun p=>(kI p.1,nD p.2)).any fun kv=>decide (kv.1=kI k))=decide (k∈kvs.map (·.1)):=by
 rw[Qc6,T_,QcR,decide_eq_true_iff,A_];constructor
 .rintro⟨p,h1,h2⟩
  simp only[QbB,decide_eq_true_eq]at h2;exact⟨p,h1,uW h2⟩
 .rintro⟨p,h1,rfl⟩
  exact⟨p,h1,by simp⟩
theorem FK(kvs:List (Nat×Nat))(k v:Nat):dQ (kvs.map fun p=>(kI p.1,nD p.2)) (kI k) (nD v)=(putN kvs k v).map fun p=>(kI p.1,nD p.2):=by
 unfold dQ putN;rw[tt];by_cases h:k∈kvs.map (·.1)
 .rw[decide_eq_true h,if_pos rfl,if_pos h,R_,R_];refine Qam fun p _=>?_;simp only[QbB];by_cases e:p.1=k
  .rw[if_pos (by rw[e]),if_pos e]
  .rw[if_neg (fun z=>e (uW z)),if_neg e]
 .rw[decide_eq_false h,if_neg d_,if_neg h,P_];rfl
theorem Te(kvs:List (Nat×Nat))(k v j:Nat):j∈(putN kvs k v).map (·.1)↔j∈kvs.map (·.1)\/j=k:=by
 unfold putN;by_cases h:k∈kvs.map (·.1)
 .rw[if_pos h,R_];have:((fun p:Nat×Nat=>p.1)∘fun p=>if p.1=k then(p.1,v)else p)=fun p=>p.1:=by funext p;simp only[QbB];split <;> rfl
  rw[this];constructor
  .exact .inl
  .rintro(z|rfl)
   .exact z
   .exact h
 .rw[if_neg h];simp
theorem Se{kvs:List (Nat×Nat)}{k v:Nat}{f:Nat->Nat}(h:∀p∈kvs,p.2=f p.1)(hv:v=f k):∀p∈putN kvs k v,p.2=f p.1:=by
 intro p hp;unfold putN at hp;split at hp
 .obtain⟨q,h1,rfl⟩:=A_.mp hp;split
  .rename_i e;simp only;rw[e];exact hv
  .exact h q h1
 .rcases QaJ.mp hp with z|z
  .exact h p z
  .rw[Qbf.mp z];exact hv
theorem uX{kvs:List (Nat×Nat)}{k v:Nat}(hl:kvs.length<=1000):fP (KD kvs) (nD k) (nD v)=some (KD (putN kvs k v)):=by show(if (kvs.map fun p=>(kI p.1,nD p.2)).length<sizeLine then some (D.dic (dQ _ (kI k) (nD v)))else none)=_;rw[if_pos (by rw[l_,Qaa];omega),FK]
structure GI(t:Nat->Nat)(kvs:List (Nat×Nat))(L:List Nat):Prop where
 nd:(kvs.map (·.1)).Nodup
 val:∀p∈kvs,p.2=t p.1
 key:∀h,h∈kvs.map (·.1)↔h∈L
theorem PQ{kvs:List (Nat×Nat)}{k v:Nat}(h:(kvs.map (·.1)).Nodup):((putN kvs k v).map (·.1)).Nodup:=by
 unfold putN;split
 .rw[R_];have:((fun p:Nat×Nat=>p.1)∘fun p=>if p.1=k then(p.1,v)else p)=fun p=>p.1:=by funext p;simp only[QbB];split <;> rfl
  rw[this];exact h
 .rename_i hk;rw[P_];refine List.nodup_append.mpr ⟨h,by simp,fun a ha b hb=>?_⟩;simp at hb
  rintro rfl
  exact hk (hb▸ha)
theorem GI.put{t:Nat->Nat}{kvs:List (Nat×Nat)}{L:List Nat}(g:GI t kvs L)(k:Nat):GI t (putN kvs k (t k)) (L++[k]):=⟨PQ g.nd,Se g.val rfl,fun h=>by rw[Te,g.key];simp⟩
theorem GI.len{t:Nat->Nat}{kvs:List (Nat×Nat)}{L line:List Nat}(g:GI t kvs L)(hs:∀h∈L,h∈line):kvs.length<=line.length:=by have:=Rg.rV (m:=line) g.nd fun h hh=>hs h ((g.key h).mp hh);simpa using this
theorem GI.congr{t t':Nat->Nat}{kvs:List (Nat×Nat)}{L:List Nat}(g:GI t kvs L)(h:∀x∈L,t' x=t x):GI t' kvs L:=⟨g.nd,fun p hp=>by rw[g.val p hp,h p.1 ((g.key _).mp (A_.mpr ⟨p,hp,rfl⟩))],g.key⟩
theorem GI.mem{t:Nat->Nat}{kvs:List (Nat×Nat)}{L M:List Nat}(g:GI t kvs L)(h:∀x,x∈L↔x∈M):GI t kvs M:=⟨g.nd,g.val,fun x=>(g.key x).trans (h x)⟩
theorem GI.nil(t:Nat->Nat):GI t [] []:=⟨by simp,fun _ hp=>(nomatch hp),fun h=>by simp⟩
theorem wP{α:Type}(l:List α):l.filter (fun _=>true)=l:=List.filter_eq_self.mpr fun _ _=>rfl
theorem GI.full{t:Nat->Nat}{kvs:List (Nat×Nat)}{L:List Nat}{n:Nat}(g:GI t kvs L)(h:∀x,x∈L↔x<n):kvs.length=n:=by have h1:=g.len (line:=e_ n) fun x hx=>z_.mpr ((h x).mp hx);have h2:=Rg.rV (l:=e_ n) (m:=kvs.map (·.1)) Qav fun x hx=>(g.key x).mpr ((h x).mpr (z_.mp hx));simp at h1 h2;omega
def Wr(rz:List (List Nat))(h:Nat):List Nat:=(rz[h]?).getD []
theorem FM{rz:List (List Nat)}{h:Nat}(hh:h<rz.length):(rz.map TN)[h]? = some (TN (Wr rz h)):=by rw[u_];unfold Wr;rw[f_ hh];rfl
theorem Im{kvs:List (Nat×Nat)}{k v:Nat}(h:k∉kvs.map (·.1)):putN kvs k v=kvs++[(k,v)]:=by unfold putN;rw[if_neg h]
theorem KR{a:Nat->Nat}{kvs:List (Nat×Nat)}{L:List Nat}{n:Nat}(g:GI a kvs L)(h:∀x,x∈L↔x<n)(h8:n<=60):k7 [KD kvs]=.ok (TN ((e_ n).map a)):=by have hl:=g.full h;refine cU (B:=Do) (n:=1) ?_;unfold Do;refine cG (cP (dc (aL (kW (l:=e_ n) nD (fun _=>true) (fun h=>nD (a h)) (jV (ds:=[nD n]) (aL (dc (aL (d:=KD kvs) rfl aO) (by rw[Ia,hl])) aO) (jT (by omega))) (by simp;omega) fun x hx=>⟨[some (nD x),some (KD kvs)],rfl,rfl,fun _=>aX (a:=KD kvs) (b:=nD x) rfl rfl (uH (wS g.val ((g.key x).mpr ((h x).mpr (z_.mp hx)))))⟩) aO) ?_));rw[wP,e_tupL];show some (D.tup _)=some (D.tup _);rw[R_];rfl
abbrev gF(t:Nat->Nat)(h:Nat):D:=.tup [nD h,nD (t h)]
abbrev gM(t:Nat->Nat)(ring:List Nat):D:=.tup (ring.map (gF t))
def lu(t:Nat->Nat):Option (List Nat)->D
|some ring=>gM t ring
|none=>.non
section
variable{t f:Nat->Nat}{line:List Nat}{first:Nat}(hcl:∀h∈line,f h∈line)(hn:line.length<=60)
include hcl hn
theorem PX:∀(j:Nat)(ring:List Nat)(hand:Nat),hand∈line->ring.length<=line.length->line.length<j+ring.length ->∃U Y,gp iT Dy KJ j [some (nD first),some (KD (FD line t)),some (KD (FD line f)),some (.lst (ring.map (gF t))),some (nD hand)]=.nx [some (nD first),some (KD (FD line t)),some (KD (FD line f)),some (.lst (U.map (gF t))),some (nD Y)] /\∀k,line.length<k+ring.length->Rg.j6 f line.length first k ring hand=if Y=first then some U else none:=by
 intro j
 induction j with
|zero=>intro ring hand _ h1 h2;omega
|succ j ih=>
  intro ring hand hh h1 h2;have c1:(bW (f2 (gv 4) (gv 0) jj)) [some (nD first),some (KD (FD line t)),some (KD (FD line f)),some (.lst (ring.map (gF t))),some (nD hand)]=.ok (decide (first<hand)):=cW (aX (a:=nD hand) (b:=nD first) rfl rfl (mE _ _));have c2:(bW (f2 (fC (aI (gv 3) aH) lenD) (fC (aI (gv 1) aH) lenD) jh)) [some (nD first),some (KD (FD line t)),some (KD (FD line f)),some (.lst (ring.map (gF t))),some (nD hand)]=.ok (decide (ring.length<line.length)):=by refine cW (aX (a:=nD ring.length) (b:=nD line.length) (dc (aL rfl aO) (m4 _ _)) (dc (aL (d:=KD (FD line t)) rfl aO) ?_) (nz _ _));rw[Ia,l_]
  by_cases hc:first<hand/\ring.length<line.length
  .have cq:Dy [some (nD first),some (KD (FD line t)),some (KD (FD line f)),some (.lst (ring.map (gF t))),some (nD hand)]=.ok true:=by rw[decide_eq_true hc.1]at c1;rw[decide_eq_true hc.2]at c2;exact(nC c1).trans c2
   obtain⟨U,Y,i1,i2⟩:=ih (ring++[hand]) (f hand) (hcl hand hh) (by simp;omega) (by simp;omega);refine⟨U,Y,?_,fun k hk=>?_⟩
   .rw[vQ cq (r':=[some (nD first),some (KD (FD line t)),some (KD (FD line f)),some (.lst ((ring++[hand]).map (gF t))),some (nD (f hand))]) ?_]
    .exact i1
    .refine(aZ (ja (d:=.lst (ring.map (gF t))) (ds:=[gF t hand]) rfl rfl (aL (nI (aL (d:=nD hand) rfl (aL (aX (a:=KD (FD line t)) (b:=nD hand) rfl rfl (qX hh)) aO)) (by simp)) aO) (kU (by simp;omega)))).trans ?_;refine(aZ (cH (d:=nD (f hand)) (aX (a:=KD (FD line f)) (b:=nD hand) rfl rfl (qX hh)))).trans ?_;show Out.nx [_,_,_,some (D.lst (ring.map (gF t)++[gF t hand])),_]=_;rw[P_];rfl
   .cases k with
   |zero=>omega
   |succ k=>unfold Rg.j6;rw[if_pos hc];exact i2 k (by simp;omega)
  .refine⟨ring,hand,vP ?_,fun k hk=>?_⟩
   .by_cases hc1:first<hand
    .rw[decide_eq_true hc1]at c1;rw[decide_eq_false (fun z=>hc ⟨hc1,z⟩)]at c2;exact(nC c1).trans c2
    .rw[decide_eq_false hc1]at c1;exact pi c1
   .cases k with
   |zero=>omega
   |succ k=>unfold Rg.j6;rw[if_neg hc]
theorem RP(hf:first∈line):xI [nD first,KD (FD line t),KD (FD line f)]=.ok (lu t (Rg.mr f line.length first)):=by
 refine cU (B:=C1) (n:=5) ?_;unfold C1;have Z:=Qa7 hf;obtain⟨Y,U,h1,h2⟩:=PX (t:=t) (first:=first) hcl hn 64 [first] (f first) (hcl first hf) (by show 1<=_;omega) (by simp;omega);refine(aZ (cH (d:=.lst ([first].map (gF t))) (iz (aL (nI (aL (d:=nD first) rfl (aL (aX (a:=KD (FD line t)) (b:=nD first) rfl rfl (qX hf)) aO)) (by simp)) aO) (by simp)))).trans ?_;refine(aZ (cH (d:=nD (f first)) (aX (a:=KD (FD line f)) (b:=nD first) rfl rfl (qX hf)))).trans ?_;refine(aZ h1).trans ?_;have hr:Rg.mr f line.length first=if U=first then some Y else none:=h2 _ (by simp;omega)
 rw[hr];have c:=cW (aX (f:=gv 4) (f':=gv 0) (r:=[some (nD first),some (KD (FD line t)),some (KD (FD line f)),some (.lst (Y.map (gF t))),some (nD U)]) (a:=nD U) (b:=nD first) rfl rfl (i8 U first));by_cases e:U=first
 .rw[decide_eq_true e]at c;rw[if_pos e];exact cG (cP ((E2 c).trans (dc (aL (d:=.lst (Y.map (gF t))) rfl aO) rfl)))
 .rw[decide_eq_false e]at c;rw[if_neg e];exact cG (cP ((E1 c).trans rfl))
end
structure Snd(rz:List (List Nat))(oz:List (Option Nat))(s:Rg.S):Prop where
 ok:Rg.Ok (Wr rz) (own oz) s
 inr:∀h∈s.line,h<rz.length
 ino:∀h∈s.line,h<oz.length
 wid:∀h∈s.line,(Wr rz h).length<=1000
 nl:s.line.length<=60
 nt:s.things.length<=60
variable{rz:List (List Nat)}{oz:List (Option Nat)}
section
variable{s:Rg.S}
theorem Snd.tg(S:Snd rz oz s){h:Nat}(hh:h∈s.line):iF [TN (Wr rz h),LN s.things]=.ok (nD (Rg.e8 (Wr rz) s h)):=Ir (S.ok.some_thing hh) (S.wid h hh)
theorem Snd.pts(S:Snd rz oz s){x h:Nat}(hh:h∈s.line):sv [OD oz,LN s.line,nD x]=.ok (nD (Rg.pt (own oz) s x)):=Uf S.ino (Qbg hh)
abbrev tS(rz:List (List Nat))(s:Rg.S):Nat->Nat:=Rg.e8 (Wr rz) s
abbrev fS(rz:List (List Nat))(oz:List (Option Nat))(s:Rg.S):Nat->Nat:=Rg.gA (Wr rz) (own oz) s
theorem Hs(S:Snd rz oz s):∀(U pre:List Nat)(y:Option D),pre++U=s.line ->
  ∃y',bM (bS 6) Lf (U.map nD) [some (WD rz),some (OD oz),some (LN s.line),some (LN s.things),some (KD (FD pre (tS rz s))),some (KD (FD pre (fS rz oz s))),y,none]
   = .nx [some (WD rz),some (OD oz),some (LN s.line),some (LN s.things),some (KD (FD s.line (tS rz s))),some (KD (FD s.line (fS rz oz s))),y',none]
|[],pre,y,e=>⟨y,by rw[W_]at e;rw[e];exact gq⟩
|h::U,pre,y,e=>by
  obtain⟨y',ih⟩:=Hs S U (pre++[h]) (some (nD h)) (by simpa using e);have hh:h∈s.line:=by rw[<-e];simp
  have hn:=S.ok.nl;rw[<-e]at hn;have hk:h∉pre:=fun z=>(QbW.mp hn).2.2 h z h j_ rfl;have hpl:pre.length<=1000:=by have:=S.nl;rw[<-e]at this;simp at this;omega
  refine⟨y',?_⟩;rw[<-ih];refine fH (r1:=[some (WD rz),some (OD oz),some (LN s.line),some (LN s.things),some (KD (FD pre (tS rz s))),some (KD (FD pre (fS rz oz s))),some (nD h),none]) rfl ?_;have c1:fP (KD (FD pre (tS rz s))) (nD h) (nD (tS rz s h))=some (KD (FD (pre++[h]) (tS rz s))):=by rw[uX (by simpa using hpl),Im (by rw[Bt];exact hk)];unfold FD;rw[P_];rfl
  have c2:fP (KD (FD pre (fS rz oz s))) (nD h) (nD (fS rz oz s h))=some (KD (FD (pre++[h]) (fS rz oz s))):=by rw[uX (by simpa using hpl),Im (by rw[Bt];exact hk)];unfold FD;rw[P_];rfl
  refine(aZ (lC (d:=KD (FD pre (tS rz s))) (k:=nD h) (v:=nD (tS rz s h)) rfl (bN (aL (aX (a:=WD rz) (b:=nD h) rfl rfl (pb (FM (S.inr h hh)))) (aL (d:=LN s.things) rfl aO)) (S.tg hh)) rfl c1)).trans ?_;refine(aZ (lC (d:=KD (FD pre (fS rz oz s))) (k:=nD h) (v:=nD (fS rz oz s h)) rfl (bN (aL (d:=OD oz) rfl (aL (d:=LN s.line) rfl (aL (aX (a:=KD (FD (pre++[h]) (tS rz s))) (b:=nD h) rfl rfl (qX (by simp))) aO))) (S.pts hh)) rfl c2)).trans ?_;rfl
theorem Bu{α:Type}(t:Nat->Nat)(f:α->Option (List Nat)):∀(l:List α),(((l.map f).filter QfZ).map (lu t))=(l.filterMap f).map (gM t)
|[]=>rfl
|a::l=>by rw[o_,Qau,Qaw];cases e:f a with
 |none=>simpa using Bu t f l
 |some r=>simpa[lu]using Bu t f l
theorem UF(t:Nat->Nat)(h:Nat):mQ (gF t h)=some [(h:Int),(t h:Int)]:=rfl
theorem IR(t:Nat->Nat):∀(ring:List Nat),kP (ring.map (gF t))=some (ring.map fun h:Nat=>[(h:Int),(t h:Int)])
|[]=>rfl
|h::ring=>by show(mQ (gF t h)).bind _=_;rw[UF,IR t ring];rfl
theorem Jb(t:Nat->Nat):∀(rs:List (List Nat)),(∀r∈rs,r≠[])->∃kss,mV (rs.map (gM t))=some kss
|[],_=>⟨[],rfl⟩
|r::rs,h=>by obtain⟨kss,e⟩:=Jb t rs fun x hx=>h x (k_ _ hx);have hr:=h r j_;cases r with
 |nil=>exact absurd rfl hr
 |cons a r=>refine⟨((a::r).map fun h:Nat=>[(h:Int),(t h:Int)])::kss,?_⟩;show(kP ((a::r).map (gF t))).bind _=_;rw[IR,e];rfl
theorem T8(t:Nat->Nat)(rs:List (List Nat))(h:∀r∈rs,r≠[])(hl:rs.length<64):∃U:List (List Nat),U.Perm rs/\uN [.lst (rs.map (gM t))]=some (.lst (U.map (gM t))):=by
 obtain⟨kss,e⟩:=Jb t rs h;refine⟨(kN (rs.map (gM t)).length fun i j=>gB (kss.getD i []) (kss.getD j [])).map fun i=>rs.getD i [],?_,?_⟩
 .have:=(CN (rs.map (gM t)).length fun i j=>gB (kss.getD i []) (kss.getD j [])).map fun i=>rs.getD i [];refine this.trans ?_;rw[l_];have e2:(e_ rs.length).map (fun i=>rs.getD i [])=rs:=by
   refine QcH fun i=>?_;rw[u_];by_cases hi:i<rs.length
   .rw[Qax hi];simp[f_ hi]
   .rw[Qal (by simp;omega),Qal (by omega)];rfl
  rw[e2]
 .show(mV (rs.map (gM t))).bind _=_;rw[e];show(if _ then _ else _)=_;rw[if_pos (by rw[l_];exact hl)];unfold mJ;rw[R_];congr 2;refine Qam fun i hi=>?_;have hi:=Cc hi;rw[l_]at hi;simp[List.getD,f_ hi]
theorem SM{W:Nat->List Nat}{O:Nat->Option Nat}:∀r∈Rg.i6 W O s,r≠[]:=by intro r hr;obtain⟨x,_,h2⟩:=QaK.mp hr;exact Rg.Hq h2
theorem Q3(t:Nat->Nat)(o:Option (List Nat)):ik (lu t o) .non=some (.bl o.isSome):=by cases o <;> rfl
theorem S1(S:Snd rz oz s):∃rs:List (List Nat),rs.Perm (Rg.i6 (Wr rz) (own oz) s)/\yU [WD rz,OD oz,LN s.line,LN s.things]=.ok (.lst (rs.map (gM (tS rz s)))):=by
 obtain⟨y',U⟩:=Hs S s.line [] none rfl;have hcl:∀h∈s.line,fS rz oz s h∈s.line:=fun h hh=>Rg.AW (Qbg hh);have hlen:(Rg.i6 (Wr rz) (own oz) s).length<=s.line.length:=List.length_filterMap_le _ _;obtain⟨Y,hp,hs⟩:=T8 (tS rz s) (Rg.i6 (Wr rz) (own oz) s) SM (by have:=S.nl;omega);refine⟨Y,hp,cU (B:=DA) (n:=8) ?_⟩;unfold DA;refine(aZ (r':=[some (WD rz),some (OD oz),some (LN s.line),some (LN s.things),some (KD (FD [] (tS rz s))),none,none,none]) rfl).trans ?_;refine(aZ (r':=[some (WD rz),some (OD oz),some (LN s.line),some (LN s.things),some (KD (FD [] (tS rz s))),some (KD (FD [] (fS rz oz s))),none,none]) rfl).trans ?_;refine(aZ ((fL (ds:=s.line.map nD) rfl).trans U)).trans ?_;refine(aZ (cH (kW (l:=s.line) nD (fun _=>true) (fun h=>lu (tS rz s) (Rg.mr (fS rz oz s) s.line.length h)) rfl (by have:=S.nl;omega) fun h hh=>⟨[some (nD h),some (KD (FD s.line (tS rz s))),some (KD (FD s.line (fS rz oz s)))],rfl,rfl,fun _=>bN (aL (d:=nD h) rfl (aL (d:=KD (FD s.line (tS rz s))) rfl (aL (d:=KD (FD s.line (fS rz oz s))) rfl aO))) (RP hcl S.nl hh)⟩))).trans ?_;rw[wP];refine cG (cP (dc (aL (kW (l:=s.line.map (Rg.mr (fS rz oz s) s.line.length)) (lu (tS rz s)) QfZ (lu (tS rz s)) ?_ (by have:=S.nl;simp;omega) fun o _=>⟨[some (lu (tS rz s) o)],rfl,cW (aX (a:=lu (tS rz s) o) (b:=.non) rfl rfl (Q3 _ _)),fun _=>rfl⟩) aO) ?_))
 .rw[R_];rfl
 .rw[Bu];exact hs
theorem E6{t:Nat->Nat}{line:List Nat}(hl:line.length<=60)(rg d:D):∀(ring L:List Nat)(kvs:List (Nat×Nat))(x y:Option D),GI t kvs L->(∀h∈L++ring,h∈line) ->∃U x' y',GI t U (L++ring)/\bM (lc (fJ (bS 3) (fJ (bS 4) kJ))) J2 (ring.map (gF t)) [some rg,some (KD kvs),some d,x,y]=.nx [some rg,some (KD U),some d,x',y']
|[],L,kvs,x,y,g,hs=>⟨kvs,x,y,by rw[W_];exact g,gq⟩
|h::ring,L,kvs,x,y,g,hs=>by obtain⟨U,x',y',g',ih⟩:=E6 hl rg d ring (L++[h]) (putN kvs h (t h)) (some (nD h)) (some (nD (t h))) (g.put h) (by simpa using hs);refine⟨U,x',y',by simpa using g',?_⟩;rw[<-ih];have hk:=g.len (line:=line) fun x hx=>hs x (QaN _ hx);exact fH (r1:=[some rg,some (KD kvs),some d,some (nD h),some (nD (t h))]) rfl (aZ (lC (d:=KD kvs) (k:=nD h) (v:=nD (t h)) rfl rfl rfl (uX (by omega))))
theorem Ge{t:Nat->Nat}{line:List Nat}(hl:line.length<=60)(rg:D):∀(rs:List (List Nat))(L:List Nat)(kvs:List (Nat×Nat))(z x y:Option D),GI t kvs L->(∀h∈L++rs.flatten,h∈line) ->∃U z' x' y',GI t U (L++rs.flatten)/\bM (bS 2) J3 (rs.map (gM t)) [some rg,some (KD kvs),z,x,y]=.nx [some rg,some (KD U),z',x',y']
|[],L,kvs,z,x,y,g,hs=>⟨kvs,z,x,y,by simpa using g,gq⟩
|r::rs,L,kvs,z,x,y,g,hs=>by
  obtain⟨Y,x1,y1,g1,h1⟩:=E6 hl rg (gM t r) r L kvs x y g fun h hh=>hs h (by
   rw[QaT];rcases QaJ.mp hh with q|q
   .exact QaN _ q
   .exact Q_ _ (QaN _ q))
  obtain⟨U,z',x',y',g',ih⟩:=Ge hl rg rs (L++r) Y (some (gM t r)) x1 y1 g1 (by rw[Qab];simpa using hs);refine⟨U,z',x',y',by rw[Qab]at g';simpa using g',?_⟩;rw[<-ih];exact fH (r1:=[some rg,some (KD kvs),some (gM t r),x,y]) rfl (aZ ((fL (ds:=r.map (gF t)) rfl).trans h1))
theorem Hu{t:Nat->Nat}{line:List Nat}{rs:List (List Nat)}(hl:line.length<=60)(hs:∀h∈rs.flatten,h∈line):∃kvs,GI t kvs rs.flatten/\lM [.lst (rs.map (gM t))]=.ok (KD kvs):=by obtain⟨U,z',x',y',g',h⟩:=Ge hl (.lst (rs.map (gM t))) rs [] [] none none none ⟨by simp,fun _ hp=>(nomatch hp),fun h=>by simp⟩ (by simpa using hs);refine⟨U,by simpa using g',cU (B:=BP) (n:=5) ?_⟩;unfold BP;refine(aZ (r':=[some (.lst (rs.map (gM t))),some (KD []),none,none,none]) rfl).trans ?_;refine(aZ ((fL (ds:=rs.map (gM t)) rfl).trans h)).trans ?_;exact cG (cP (d:=KD U) rfl)
end
inductive Ch(rz:List (List Nat))(oz:List (Option Nat)):Rg.S->List (List (List Nat)×Rg.S)->Prop where
 |nil {s:Rg.S}:s.line=[]->Ch rz oz s []
 |cons {s:Rg.S} {rs:List (List Nat)} {l:List (List (List Nat)×Rg.S)}:s.line≠[]->rs.Perm (Rg.i6 (Wr rz) (own oz) s)->Ch rz oz (Rg.minus (Wr rz) s rs.flatten) l->Ch rz oz s ((rs,s)::l)
abbrev jP(rz:List (List Nat))(p:List (List Nat)×Rg.S):D:=.lst (p.1.map (gM (tS rz p.2)))
theorem Ik{s:Rg.S}{rs:List (List Nat)}(hp:rs.Perm (Rg.i6 (Wr rz) (own oz) s)):Rg.Cyc (Wr rz) (own oz) s rs.flatten:=Rg.Hr (fun h hh=>by obtain⟨r,h1,h2⟩:=QbH.mp hh;exact⟨r,hp.mem_iff.mp h1,h2⟩) (fun r hr h hh=>QbH.mpr ⟨r,hp.mem_iff.mpr hr,hh⟩)
theorem Snd.minus{s:Rg.S}(S:Snd rz oz s){C:List Nat}(c:Rg.Cyc (Wr rz) (own oz) s C):Snd rz oz (Rg.minus (Wr rz) s C) where
 ok:=Rg.AF S.ok c
 inr:=fun h hh=>S.inr h (D_.mp hh).1
 ino:=fun h hh=>S.ino h (D_.mp hh).1
 wid:=fun h hh=>S.wid h (D_.mp hh).1
 nl:=L_ (QcK _ _) S.nl
 nt:=L_ (QcK _ _) S.nt
theorem Qu{s:Rg.S}{C:List Nat}(c:Rg.Cyc (Wr rz) (own oz) s C)(hne:C≠[]):(Rg.minus (Wr rz) s C).line.length<s.line.length:=by obtain⟨x,hx⟩:=Qbm _ hne;have:=Rg.xO (fun h=>decide (h∉C)) s.line;have h3:0<(s.line.filter fun h=>! decide (h∉C)).length:=Qa7 (D_.mpr ⟨c.sub x hx,by simpa using hx⟩);show(s.line.filter _).length<_;omega
theorem UI{s:Rg.S}{rs:List (List Nat)}(hp:rs.Perm (Rg.i6 (Wr rz) (own oz) s))(hne:s.line≠[]):rs.flatten≠[]:=by obtain⟨x,hx⟩:=Qbm _ (Rg.Hb (W:=Wr rz) (O:=own oz) hne);obtain⟨r,h1,h2⟩:=QbH.mp hx;exact Qbg (QbH.mpr ⟨r,hp.mem_iff.mpr h1,h2⟩)
theorem VE{kvs:List (Nat×Nat)}{L:List Nat}{t:Nat->Nat}(g:GI t kvs L)(h:Nat):fV (nD h) (KD kvs)=some (.bl (decide (h∉L))):=by
 show(some (dE _ (kI h))).map (fun b=>D.bl (! b))=_;have e:dE (kvs.map fun p=>(kI p.1,nD p.2)) (kI h)=decide (h∈kvs.map (·.1)):=tt kvs h;rw[e];have:decide (h∈kvs.map (·.1))=decide (h∈L):=by rw[decide_eq_decide];exact g.key h
 rw[this];show some (D.bl (! decide (h∈L)))=_;rw[decide_not]
theorem GI.vals{kvs:List (Nat×Nat)}{L:List Nat}{t:Nat->Nat}(g:GI t kvs L)(x:Nat):x∈kvs.map (·.2)↔x∈L.map t:=by
 constructor
 .intro hx;obtain⟨p,h1,rfl⟩:=A_.mp hx;exact A_.mpr ⟨p.1,(g.key _).mp (A_.mpr ⟨p,h1,rfl⟩),(g.val p h1).symm⟩
 .intro hx;obtain⟨h,h1,rfl⟩:=A_.mp hx;obtain⟨p,h2,rfl⟩:=A_.mp ((g.key h).mpr h1);exact A_.mpr ⟨p,h2,g.val p h2⟩
theorem VF{kvs:List (Nat×Nat)}{L:List Nat}{t:Nat->Nat}(g:GI t kvs L)(x:Nat):fV (nD x) (LN (kvs.map (·.2)))=some (.bl (decide (x∉L.map t))):=by rw[Nc,decide_not];congr 3;rw[decide_eq_decide];exact g.vals x
theorem PU(od:D):∀(j:Nat)(s:Rg.S)(told:List D)(x y z:Option D),Snd rz oz s->s.line.length<j->told.length+s.line.length<=60 ->
  ∃(s':Rg.S)(l:List (List (List Nat)×Rg.S))(x' y' z':Option D),Ch rz oz s l/\l.length<=s.line.length /\
   gp iS JR J5 j [some (WD rz),some (OD oz),some od,some (LN s.line),some (LN s.things),some (.lst told),x,y,z]
    = .nx [some (WD rz),some (OD oz),some od,some (LN s'.line),some (LN s'.things),some (.lst (told++l.map (jP rz))),x',y',z']:=by
 intro j
 induction j with
|zero=>intro s told x y z _ h;omega
|succ j ih=>
  intro s told x y z S hj ht;by_cases hne:s.line=[]
  .refine⟨s,[],x,y,z,.nil hne,Qaf _,?_⟩;rw[Qb6,W_];refine vP (eZ (d:=LN s.line) rfl ?_);rw[hne];rfl
  .obtain⟨rs,hp,hr⟩:=S1 S;have c:=Ik hp;obtain⟨kvs,g,hg⟩:=Hu (t:=tS rz s) S.nl c.sub;have hlt:=Qu c (UI hp hne);obtain⟨s',l,x',y',z',h1,h2,h3⟩:=ih (Rg.minus (Wr rz) s rs.flatten) (told++[jP rz (rs,s)]) (some (jP rz (rs,s))) (some (KD kvs)) (some (LN (kvs.map (·.2)))) (S.minus c) (by omega) (by simp;omega);refine⟨s',(rs,s)::l,x',y',z',.cons hne hp h1,by simp;omega,?_⟩;rw[Qab]at h3;rw[o_];refine QdI (vQ (eZ (b:=true) (d:=LN s.line) rfl ?_) ?_) h3
   .cases q:s.line with
   |nil=>exact absurd q hne
   |cons a t=>rfl
   .refine(aZ (cH (bN (aL (d:=WD rz) rfl (aL (d:=OD oz) rfl (aL (d:=LN s.line) rfl (aL (d:=LN s.things) rfl aO)))) hr))).trans ?_;refine(aZ (cH (bN (aL (d:=.lst (rs.map (gM (tS rz s)))) rfl aO) hg))).trans ?_;refine(aZ (cH (d:=LN (kvs.map (·.2))) (gE (a:=KD kvs) rfl ?_))).trans ?_
    .rw[e_valsD,R_];show some (D.lst _)=some (D.lst ((kvs.map (·.2)).map nD));rw[R_];rfl
    refine(aZ (cH (kW (l:=s.line) nD (fun h=>decide (h∉rs.flatten)) nD rfl (by have:=S.nl;omega) fun h hh=>⟨[some (nD h),some (KD kvs)],rfl,cW (aX (a:=nD h) (b:=KD kvs) rfl rfl (VE g h)),fun _=>rfl⟩))).trans ?_;refine(aZ (cH (kW (l:=s.things) nD (fun x=>decide (x∉rs.flatten.map (tS rz s))) nD rfl (by have:=S.nt;omega) fun h hh=>⟨[some (nD h),some (LN (kvs.map (·.2)))],rfl,cW (aX (a:=nD h) (b:=LN (kvs.map (·.2))) rfl rfl (VF g h)),fun _=>rfl⟩))).trans ?_;refine(aZ (ja (d:=.lst told) (ds:=[jP rz (rs,s)]) rfl rfl (aL (d:=jP rz (rs,s)) rfl aO) (kU (by omega)))).trans ?_;rfl
def gW:Option (List Nat)->D
|none=>.non
|some l=>LN l
def s0(rz:List (List Nat))(o:Option (List Nat)):Rg.S:=⟨o.getD (e_ rz.length),e_ (rz.headD []).length⟩
theorem Ue{o:Option (List Nat)}(ho:∀l,o=some l->l.Nodup/\(∀k∈l,k<rz.length)/\l.length=rz.length)(h8:rz.length<=60):k4 [WD rz,gW o]=.ok (LN (s0 rz o).line):=by cases o with
|none=>exact KS (by omega)
|some l=>obtain⟨h1,h2,h3⟩:=ho l rfl;exact Jx h1 h2 h3 (by omega)
theorem Uh{o:Option (List Nat)}(ho:∀l,o=some l->l.Nodup/\(∀k∈l,k<rz.length)/\l.length=rz.length)(hr:rz≠[])(h8:rz.length<=60)(S:Snd rz oz (s0 rz o)):∃l,Ch rz oz (s0 rz o) l/\l.length<=60/\rK [WD rz,OD oz,gW o]=.ok (.lst (l.map (jP rz))):=by obtain⟨s',l,x',y',z',h1,h2,h3⟩:=PU (rz:=rz) (oz:=oz) (gW o) 64 (s0 rz o) [] none none none S (by have:=S.nl;omega) (by have:=S.nl;simp;omega);refine⟨l,h1,by have:=S.nl;omega,cU (B:=vR) (n:=9) ?_⟩;unfold vR;cases rz with
|nil=>exact absurd rfl hr
|cons row rest=>refine(aZ (cH (bN (aL (d:=WD (row::rest)) rfl (aL (d:=gW o) rfl aO)) (Ue ho h8)))).trans ?_;refine(aZ (cH (d:=LN (s0 (row::rest) o).things) (dc (aL (bN (aL (d:=WD (row::rest)) rfl aO) Cy) aO) (uY (by have:=S.nt;unfold s0 at this;simp at this;omega))))).trans ?_;refine(aZ (cH (d:=.lst []) (iz aO (by simp)))).trans ?_;refine(aZ h3).trans ?_;exact cG (cP (d:=.lst (l.map (jP (row::rest)))) rfl)
theorem GT:∀(more kvs:List (Nat×Nat)),qQ (kvs.map fun p=>(kI p.1,nD p.2)) (more.map fun p=>(kI p.1,nD p.2))=(more.foldl (fun acc p=>putN acc p.1 p.2) kvs).map fun p=>(kI p.1,nD p.2)
|[],kvs=>rfl
|p::more,kvs=>by have ih:=GT more (putN kvs p.1 p.2);rw[Qcm,<-ih,<-FK];rfl
theorem Ie{t:Nat->Nat}:∀(more kvs:List (Nat×Nat))(L:List Nat),GI t kvs L->(∀p∈more,p.2=t p.1)->GI t (more.foldl (fun acc p=>putN acc p.1 p.2) kvs) (L++more.map (·.1))
|[],kvs,L,g,_=>by simpa using g
|p::more,kvs,L,g,h=>by have:=Ie more (putN kvs p.1 p.2) (L++[p.1]) (by rw[h p j_];exact g.put p.1) fun q hq=>h q (k_ _ hq);rw[Qab]at this;exact this
theorem GG{a:Nat->Nat}{line:List Nat}(hl:line.length<=60)(od:D):∀(l:List (List (List Nat)×Rg.S))(L:List Nat)(kvs:List (Nat×Nat))(z:Option D),GI a kvs L->(∀h∈L,h∈line) ->(∀p∈l,∀h∈p.1.flatten,a h=tS rz p.2 h/\h∈line) ->∃U z',GI a U (L++l.flatMap fun p=>p.1.flatten)/\bM (bS 4) Kw (l.map (jP rz)) [some (WD rz),some (OD oz),some od,some (KD kvs),z]=.nx [some (WD rz),some (OD oz),some od,some (KD U),z']
|[],L,kvs,z,g,_,_=>⟨kvs,z,by simpa using g,gq⟩
|p::l,L,kvs,z,g,hL,hp=>by
  have h0:=hp p j_;obtain⟨more,g1,hg⟩:=Hu (t:=tS rz p.2) (rs:=p.1) hl fun h hh=>(h0 h hh).2;have g2:=g1.congr (t':=a) fun x hx=>(h0 x hx).1;have g3:=(Ie more kvs L g g2.val).mem (M:=L++p.1.flatten) fun x=>by rw[QaJ,QaJ,g2.key]
  obtain⟨U,z',g',ih⟩:=GG hl od l (L++p.1.flatten) _ (some (jP rz p)) g3 (fun h hh=>by
   rcases QaJ.mp hh with q|q
   .exact hL h q
   .exact(h0 h q).2) fun q hq=>hp q (k_ _ hq)
  refine⟨U,z',by rw[Qab]at g';simpa using g',?_⟩;rw[<-ih];refine fH (r1:=[some (WD rz),some (OD oz),some od,some (KD kvs),some (jP rz p)]) rfl (aZ (ja (d:=KD kvs) (ds:=[KD more]) rfl rfl (aL (bN (aL (d:=jP rz p) rfl aO) hg) aO) ?_));have l1:=g.len hL;have l2:=g1.len (line:=line) fun h hh=>(h0 h hh).2;show(if _ then some (D.dic (qQ _ _))else none)=_;rw[if_pos (by rw[l_,l_,Qaa];omega),GT]
theorem OU{a:Nat->Nat}{s:Rg.S}{l:List (List (List Nat)×Rg.S)}(c:Ch rz oz s l):Rg.Ok (Wr rz) (own oz) s->Rg.TTC (Wr rz) (own oz) a s->(∀p∈l,∀h∈p.1.flatten,a h=tS rz p.2 h/\h∈s.line)/\∀h∈s.line,∃p∈l,h∈p.1.flatten:=by induction c with
|nil h0=>exact fun _ _=>⟨fun _ hp=>(nomatch hp),fun h hh=>by rw[h0]at hh;cases hh⟩
|@cons s rs l _ hp c ih=>
  intro k t;have cy:=Ik hp;obtain⟨t1,t2⟩:=Rg.Mn t k cy;obtain⟨i1,i2⟩:=ih (Rg.AF k cy) t1;refine⟨fun p U h hh=>?_,fun h hh=>?_⟩
  .rcases t_.mp U with rfl|q
   .exact⟨t2 h hh,cy.sub h hh⟩
   .exact⟨(i1 p q h hh).1,(D_.mp (i1 p q h hh).2).1⟩
  .by_cases hc:h∈rs.flatten
   .exact⟨(rs,s),j_,hc⟩
   .obtain⟨p,h1,h2⟩:=i2 h (D_.mpr ⟨hh,by simpa using hc⟩);exact⟨p,k_ _ h1,h2⟩
theorem UL{o:Option (List Nat)}{a:Nat->Nat}(ho:∀l,o=some l->l.Nodup/\(∀k∈l,k<rz.length)/\l.length=rz.length)(hr:rz≠[])(h8:rz.length<=60)(S:Snd rz oz (s0 rz o))(hall:∀h,h<rz.length->h∈(s0 rz o).line)(t:Rg.TTC (Wr rz) (own oz) a (s0 rz o)):iM [WD rz,OD oz,gW o]=.ok (TN ((e_ rz.length).map a)):=by
 obtain⟨l,hc,hl,Z⟩:=Uh ho hr h8 S;obtain⟨c1,c2⟩:=OU hc S.ok t;obtain⟨Y,z',g,U⟩:=GG (rz:=rz) (oz:=oz) (a:=a) S.nl (gW o) l [] [] none ⟨by simp,fun _ hp=>(nomatch hp),fun h=>by simp⟩ (fun _ hh=>(nomatch hh)) c1;refine cU (B:=rP) (n:=5) ?_;unfold rP;refine(aZ (r':=[some (WD rz),some (OD oz),some (gW o),some (KD []),none]) rfl).trans ?_;refine(aZ ((fL (ds:=l.map (jP rz)) (mW (bN (aL (d:=WD rz) rfl (aL (d:=OD oz) rfl (aL (d:=gW o) rfl aO))) Z) rfl)).trans U)).trans ?_;refine cG (cP (bN (aL (d:=KD Y) rfl aO) (KR g (n:=rz.length) (fun x=>?_) h8)));rw[QaY,List.mem_flatMap];constructor
 .rintro⟨p,h1,h2⟩
  exact S.inr x (c1 p h1 x h2).2
 .intro hx;obtain⟨p,h1,h2⟩:=c2 x (hall x hx);exact⟨p,h1,h2⟩
theorem lz{a b:Nat}(h:0<b):cQ (nD a) (nD b)=some (nD (a%b)):=by rw[A9 (by omega:(0:Int)<(b:Int))];show some (D.int _)=some (D.int _);rw[Int.natCast_emod]
theorem rA{a b:Nat}(h:0<b)(h2:b<1000):jO (nD a) (nD b)=some (nD (a/b)):=by rw[QW (⟨by omega,by omega⟩:jL (a:Int) (b:Int))];show some (D.int _)=some (D.int _);rw[QdF]
theorem mM(a b:Nat):addA (nD a) (nD b)=some (nD (a+b)):=by rw[addA_int];show some (D.int _)=some (D.int _);rw[Qfo]
section
variable{f f':FE}{r:aQ}
theorem pk{b:Int}(h:∃i:Int,f r=.ok (.int i))(h':f' r=.ok (.int b))(hb:0<b):∃c:Nat,f2 f f' cQ r=.ok (nD c):=by obtain⟨i,hi⟩:=h;refine⟨(i%b).toNat,aX hi h' ?_⟩;rw[A9 hb];show some (D.int _)=some (D.int _);rw[Qc4 (Qd4 _ (by omega))]
theorem LK(h:∃c:Nat,f r=.ok (nD c)):∃i:Int,f r=.ok (.int i):=let⟨c,e⟩:=h;⟨c,e⟩
theorem nK{b:Int}(h:∃i:Int,f r=.ok (.int i))(h':f' r=.ok (.int b))(hb : -(2^64)<b/\b<2^64):∃i:Int,f2 f f' dS r=.ok (.int i):=by obtain⟨i,hi⟩:=h;exact⟨i*b,aX hi h' (HK (.inr hb))⟩
theorem uD(h:∃i:Int,f r=.ok (.int i))(h':∃i:Int,f' r=.ok (.int i)):∃i:Int,f2 f f' addA r=.ok (.int i):=by obtain⟨i,hi⟩:=h;obtain⟨j,hj⟩:=h';exact⟨i+j,aX hi hj rfl⟩
end
theorem EZ{m:List Md}{i:Nat}{f:FE}{s2:FS}{r:aQ}(h:∃c:Nat,f r=.ok (nD c))(k:∀c:Nat,∃d:Nat,s2 (r.set i (some (nD c)))=.rt (nD d)):∃d:Nat,aG (aR m i f) s2 r=.rt (nD d):=by obtain⟨c,hc⟩:=h;obtain⟨d,hd⟩:=k c;exact⟨d,(aZ (cH hc)).trans hd⟩
abbrev IN(ns:List Int):D:=.lst (ns.map .int)
theorem wD(ns:List Int)(k:Nat)(hk:k<=1000):∃c:Nat,kb [IN ns,nD k]=.ok (nD c):=by
 suffices h:∃c:Nat,xF (bL 4 [IN ns,nD k])=.rt (nD c)by obtain⟨c,hc⟩:=h;exact⟨c,cU (B:=xF) (n:=4) hc⟩
 unfold xF;have st:aG (aR fu 2 (ci 0))=aG (aR fu 2 (fun _=>Res.ok (nD 0))):=rfl;rw[st];refine EZ ⟨0,rfl⟩ fun c1=>?_;show ∃d:Nat,aG _ _ [some (IN ns),some (nD k),some (nD c1),none]=_;have key:∃c2:Nat,(dj fu (bW (f2 (gv 1) (fC (aI (gv 0) aH) lenD) jh)) (aG (aR fu 2 (f2 (f2 (gv 0) (gv 1) bY) (f2 (ci 10) (ci 60) kA) cQ)) aV) aV) [some (IN ns),some (nD k),some (nD c1),none]=.nx [some (IN ns),some (nD k),some (nD c2),none]:=by
  have t:=cW (aX (f:=gv 1) (r:=[some (IN ns),some (nD k),some (nD c1),none]) (a:=nD k) rfl (dc (aL (f:=gv 0) (d:=IN ns) rfl aO) (m4 _ _)) (nz k ns.length));by_cases hlt:k<ns.length
  .rw[decide_eq_true hlt]at t;have hx:(ns.map D.int)[k]? = some (.int ns[k]):=by rw[u_,f_ hlt];rfl
   have hp:kA (.int 10) (.int 60)=some (.int (10^60)):=by show kK jK _ _ _=_;rw[intsC_int,if_pos (by unfold jK;decide)];rfl
   obtain⟨c2,h2⟩:=pk (f:=f2 (gv 0) (gv 1) bY) (f':=f2 (ci 10) (ci 60) kA) (r:=[some (IN ns),some (nD k),some (nD c1),none]) ⟨ns[k],aX (a:=IN ns) (b:=nD k) rfl rfl (uI hx)⟩ (aX rfl rfl hp) (by decide);exact⟨c2,(eU t).trans ((aZ (cH h2)).trans rfl)⟩
  .rw[decide_eq_false hlt]at t;exact⟨c1,(cR t).trans rfl⟩
 obtain⟨c2,h2⟩:=key;rw[aZ h2];have kq:∃b,(eV (bW (f2 (fC (aI (gv 0) aH) lenD) (ci 0) jj)) (bW (f2 (f2 (f2 (gv 0) (ci 0) bY) (ci 2) cQ) (ci 0) eqD))) [some (IN ns),some (nD k),some (nD c2),none]=.ok b:=by have t:=cW (aX (f:=fC (aI (gv 0) aH) lenD) (f':=fun _=>Res.ok (D.int 0)) (r:=[some (IN ns),some (nD k),some (nD c2),none]) (b:=nD 0) (dc (aL (d:=IN ns) rfl aO) (m4 _ _)) rfl (mE ns.length 0));cases ns with
 |nil=>exact⟨false,pi t⟩
 |cons a ns=>rw[decide_eq_true (by simp)]at t;obtain⟨c3,h3⟩:=pk (f:=f2 (gv 0) (ci 0) bY) (f':=fun _=>Res.ok (D.int 2)) (r:=[some (IN (a::ns)),some (nD k),some (nD c2),none]) ⟨a,aX (a:=IN (a::ns)) (b:=.int 0) rfl rfl (ixA_L0 _ _)⟩ rfl (by decide);exact⟨_,(nC t).trans (cW (aX h3 (b:=nD 0) rfl (i8 c3 0)))⟩
 obtain⟨b,hb⟩:=kq;cases b with
|true=>exact⟨c2,cG ((eU hb).trans (cG (cP (d:=nD c2) rfl)))⟩
|false=>rw[aZ ((cR (s2:=aV) hb).trans (e_skip _))];refine EZ (pk (nK (LK (pk (nK (uD (uD (uD ⟨(c2:Int),rfl⟩ (nK (b:=(k:Int)) (nK (b:=(k:Int)) ⟨7,rfl⟩ rfl (by omega)) rfl (by omega))) (nK (b:=(k:Int)) ⟨13,rfl⟩ rfl (by omega))) ⟨5,rfl⟩) rfl (by decide)) rfl (by decide))) rfl (by decide)) rfl (by decide)) fun c3=>?_;obtain⟨c4,h4⟩:=pk (f:=(f2 (f2 (f2 (f2 (gv 3) (ci 1) addA) (ci 40692) dS) (ci 2147483629) cQ) (ci 39373) dS)) (f':=fun _=>Res.ok (D.int 999999937)) (r:=[some (IN ns),some (nD k),some (nD c2),some (nD c3)]) (nK (LK (pk (nK (uD ⟨(c3:Int),rfl⟩ ⟨1,rfl⟩) rfl (by decide)) rfl (by decide))) rfl (by decide)) rfl (by decide);exact⟨c4,cG (cP h4)⟩
theorem Q1{row:List Nat}{i:Int}{x:Nat}:dD (row.map nD) i (nD x)=(dD row i x).map nD:=by unfold dD;rw[l_,P_,o_,Qf0,Qf1]
theorem Sy{row:List Nat}{i:Int}{x:Nat}:(dD row i x).Perm (x::row):=by unfold dD;refine Qfa.trans ?_;rw[Qd7]
theorem Iq(m:Nat):∀(j i c:Nat)(row:List Nat)(x:Option D),row.Perm (e_ i)->i+j<=60 ->∃(c':Nat)(U:List Nat)(x':Option D),U.Perm (e_ (i+j))/\bM (bS 3) Ku ((QcY i j).map nD) [some (nD c),some (nD m),some (LN row),x]=.nx [some (nD c'),some (nD m),some (LN U),x']
|0,i,c,row,x,hp,_=>⟨c,row,x,hp,gq⟩
|j+1,i,c,row,x,hp,hl=>by
  have hlen:row.length=i:=by rw[hp.length_eq];simp
  obtain⟨c',U,x',h1,h2⟩:=Iq m j (i+1) (c/(i+1)) (dD row ((c%(i+1):Nat):Int) i) (some (nD i)) (by refine Sy.trans ?_;rw[Qcn];exact(List.Perm.cons i hp).trans (Qdo i _).symm) (by omega);refine⟨c',U,x',by rw[show i+(j+1)=i+1+j by omega];exact h1,?_⟩;rw[<-h2];have Y:c%(i+1)<i+1:=Qdp _ (by omega);refine fH (r1:=[some (nD c),some (nD m),some (LN row),some (nD i)]) rfl ?_;refine(aZ (ja (d:=LN row) (ds:=[nD (c%(i+1)),nD i]) (d':=LN (dD row ((c%(i+1):Nat):Int) i)) rfl rfl (aL (aX (a:=nD c) (b:=nD (i+1)) rfl (aX (a:=nD i) (b:=nD 1) rfl rfl (mM i 1)) (lz (by omega))) (aL (d:=nD i) rfl aO)) ?_)).trans ?_
  .show(if _ then some (D.lst (dD _ _ _))else none)=_;rw[if_pos ⟨by rw[l_,Qaa];omega,by omega,by omega⟩,Q1]
  .exact aZ (cH (d:=nD (c/(i+1))) (aX (a:=nD c) (b:=nD (i+1)) rfl (aX (a:=nD i) (b:=nD 1) rfl rfl (mM i 1)) (rA (by omega) (by omega))))
theorem Hv(c m:Nat)(hm:m<=60):∃row:List Nat,row.Perm (e_ m)/\n6 [nD c,nD m]=.ok (TN row):=by obtain⟨c',U,x',h1,h2⟩:=Iq m m 0 c [] none (by simp) (by omega);rw[QbL]at h1;rw[<-Qb3]at h2;refine⟨U,h1,cU (B:=Cj) (n:=4) ?_⟩;unfold Cj;refine(aZ (cH (d:=LN []) (iz aO (by simp)))).trans ?_;refine(aZ ((fL (ds:=(e_ m).map nD) (jV (aL (d:=nD m) rfl aO) (jT (by omega)))).trans h2)).trans ?_;exact cG (cP (dc (aL (d:=LN U) rfl aO) rfl))
theorem JZ(ns:List Int)(U n m:Nat)(ha:U<=60)(hn:n<=60)(hm:m<=60):∃rz:List (List Nat),rz.length=n/\(∀row∈rz,row.Perm (e_ m))/\sr [IN ns,nD U,nD n,nD m]=.ok (WD rz):=by
 have h:∀h:Nat,∃row:List Nat,h<=60->row.Perm (e_ m)/\∃c:Nat,kb [IN ns,nD (U+h)]=.ok (nD c)/\n6 [nD c,nD m]=.ok (TN row):=by
  intro h;by_cases hh:h<=60
  .obtain⟨c,hc⟩:=wD ns (U+h) (by omega);obtain⟨row,h1,h2⟩:=Hv c m hm;exact⟨row,fun _=>⟨h1,c,hc,h2⟩⟩
  .exact⟨[],fun z=>absurd z hh⟩
 obtain⟨g,hg⟩:=Classical.axiomOfChoice h;refine⟨(e_ n).map g,by simp,fun row hr=>?_,cU (B:=C9) (n:=4) ?_⟩
 .obtain⟨i,hi,rfl⟩:=A_.mp hr;exact(hg i (by have:=z_.mp hi;omega)).1
 .unfold C9;refine cG (cP (dc (aL (kW (l:=e_ n) nD (fun _=>true) (fun h=>TN (g h)) (jV (aL (d:=nD n) rfl aO) (jT (by omega))) (by simp;omega) fun h hh=>⟨[some (nD h),some (nD m),some (IN ns),some (nD U)],rfl,rfl,fun _=>?_⟩) aO) ?_))
  .obtain⟨_,c,h1,h2⟩:=hg h (by have:=z_.mp hh;omega);exact bN (aL (bN (aL (d:=IN ns) rfl (aL (aX (a:=nD U) (b:=nD h) rfl rfl (mM U h)) aO)) h1) (aL (d:=nD m) rfl aO)) h2
  .rw[wP,e_tupL];show some (D.tup _)=some (D.tup _);rw[R_];rfl
structure Own(oz:List (Option Nat))(m:Nat):Prop where
 lt:∀x,some x∈oz->x<m
 inj:∀h k x,own oz h=some x->own oz k=some x->h=k
theorem Bb{oz:List (Option Nat)}{h x:Nat}(e:own oz h=some x):some x∈oz/\h<oz.length:=by unfold own at e;cases q:oz[h]? with
|none=>rw[q]at e;cases e
|some o=>rw[q]at e;have:o=some x:=e;subst this;exact⟨Qd8 q,(m_.mp q).1⟩
theorem HD{oz:List (Option Nat)}{o:Option Nat}{h:Nat}:own (oz++[o]) h=if h<oz.length then own oz h else if h=oz.length then o else none:=by
 unfold own;by_cases q:h<oz.length
 .rw[if_pos q,Qaj q]
 .rw[if_neg q,Qbd (by omega)];by_cases z:h=oz.length
  .subst z;simp
  .rw[if_neg z,Qal (by simp;omega)];rfl
theorem Own.app_none{oz:List (Option Nat)}{m:Nat}(w:Own oz m):Own (oz++[none]) m where
 lt:=fun x hx=>w.lt x (by simpa using hx)
 inj:=fun h k x h1 h2=>by
  rw[HD]at h1 h2;have f:∀h,(if h<oz.length then own oz h else if h=oz.length then none else none)=some x->own oz h=some x:=by
   intro h e;split at e
   .exact e
   .split at e <;> cases e
  exact w.inj h k x (f h h1) (f k h2)
theorem Own.app_some{oz:List (Option Nat)}{m t:Nat}(w:Own oz m)(ht:t<m)(hn:some t∉oz):Own (oz++[some t]) m where
 lt:=fun x hx=>by
  rcases QaJ.mp hx with z|z
  .exact w.lt x z
  .simp at z;omega
 inj:=fun h k x h1 h2=>by
  rw[HD]at h1 h2;split at h1 <;> split at h2
  .exact w.inj h k x h1 h2
  .split at h2
   .cases h2;exact absurd (Bb h1).1 hn
   .cases h2
  .split at h1
   .cases h1;exact absurd (Bb h2).1 hn
   .cases h1
  .split at h1
   .split at h2
    .omega
    .cases h2
   .cases h1
theorem EM(l:List (Option Nat))(k:Nat):(l.map oD).any (fun y=>eqs y (nD k))=decide (some k∈l):=by
 rw[Qc6,T_,QcR,decide_eq_true_iff];constructor
 .rintro⟨x,h1,h2⟩
  cases x with
 |none=>cases h2
 |some x=>have:(((x:Nat):Int)==(k:Int))=true:=h2;have:=Qcj.mp (QaQ this);subst this;exact h1
 .intro h;exact⟨some k,h,by show(((k:Nat):Int)==(k:Int))=true;simp⟩
theorem Wb(l:List (Option Nat)):(l.map oD).all eG=true:=by rw[Qbb];intro x hx;obtain⟨k,_,rfl⟩:=A_.mp hx;cases k <;> rfl
theorem Wg(l:List (Option Nat))(k:Nat):ji (nD k) (.lst (l.map oD))=some (.bl (decide (some k∈l))):=by show(if eG (nD k)=true/\(l.map oD).all eG=true then some ((l.map oD).any fun y=>eqs y (nD k))else none).map D.bl=_;rw[if_pos ⟨rfl,Wb l⟩,EM];rfl
structure Scene(rz:List (List Nat))(oz:List (Option Nat))(o:Option (List Nat))(n m:Nat):Prop where
 n1:1<=n
 n7:n<=7
 nm:n<=m
 m8:m<=8
 rl:rz.length=n
 rp:∀row∈rz,row.Perm (e_ m)
 ow:Own oz m
 ol:oz.length=n
 op:∀l,o=some l->l.Perm (e_ n)
theorem HC(n m:Nat)(hm:m<=60):∀(l:List Nat)(c:Nat)(oz:List (Option Nat))(x y:Option D),Own oz m->oz.length+l.length<=60 ->∃(c':Nat)(U:List (Option Nat))(x' y':Option D),Own U m/\U.length=oz.length+l.length/\bM (bS 4) Da (l.map nD) [some (nD c),some (nD n),some (nD m),some (.lst (oz.map oD)),x,y]=.nx [some (nD c'),some (nD n),some (nD m),some (.lst (U.map oD)),x',y']
|[],c,oz,x,y,w,_=>⟨c,oz,x,y,w,rfl,gq⟩
|h::l,c,oz,x,y,w,hl=>by
  have Z:c%(m+1)<m+1:=Qdp _ (by omega);have step:∃o,Own (oz++[o]) m/\Da [some (nD c),some (nD n),some (nD m),some (.lst (oz.map oD)),some (nD h),y]=.nx [some (nD (c/(m+1))),some (nD n),some (nD m),some (.lst ((oz++[o]).map oD)),some (nD h),some (nD (c%(m+1)))]:=by
   have t1:=cW (aX (f:=gv 5) (f':=gv 2) (r:=[some (nD (c/(m+1))),some (nD n),some (nD m),some (.lst (oz.map oD)),some (nD h),some (nD (c%(m+1)))]) (a:=nD (c%(m+1))) (b:=nD m) rfl rfl (i8 (c%(m+1)) m));have t2:=cW (aX (f:=gv 5) (f':=gv 3) (r:=[some (nD (c/(m+1))),some (nD n),some (nD m),some (.lst (oz.map oD)),some (nD h),some (nD (c%(m+1)))]) (a:=nD (c%(m+1))) (b:=.lst (oz.map oD)) rfl rfl (Wg oz (c%(m+1))));have pre:∀s2:FS,aG (aR eQ 5 (f2 (gv 0) (f2 (gv 2) (ci 1) addA) cQ)) (aG (aR eQ 0 (f2 (gv 0) (f2 (gv 2) (ci 1) addA) jO)) s2) [some (nD c),some (nD n),some (nD m),some (.lst (oz.map oD)),some (nD h),y]=s2 [some (nD (c/(m+1))),some (nD n),some (nD m),some (.lst (oz.map oD)),some (nD h),some (nD (c%(m+1)))]:=by intro s2;refine(aZ (cH (d:=nD (c%(m+1))) (aX (a:=nD c) (b:=nD (m+1)) rfl (aX (a:=nD m) (b:=nD 1) rfl rfl (mM m 1)) (lz (by omega))))).trans ?_;exact aZ (cH (d:=nD (c/(m+1))) (aX (a:=nD c) (b:=nD (m+1)) rfl (aX (a:=nD m) (b:=nD 1) rfl rfl (mM m 1)) (rA (by omega) (by omega))))
   have Y:(oz.map oD).length<=1000:=by rw[l_];omega
   by_cases q:c%(m+1)=m\/some (c%(m+1))∈oz
   .refine⟨none,w.app_none,(pre _).trans ((aZ ((eU ?_).trans (aZ (ja (d:=.lst (oz.map oD)) (ds:=[.non]) rfl rfl (aL (d:=.non) rfl aO) (kU Y))))).trans ?_)⟩
    .by_cases z:c%(m+1)=m
     .rw[decide_eq_true z]at t1;exact Ez t1
     .rw[decide_eq_false z]at t1;rw[decide_eq_true (q.resolve_left z)]at t2;exact(dR t1).trans t2
    .show Out.nx [_,_,_,some (D.lst (oz.map oD++[.non])),_,_]=_;rw[P_];rfl
   .have z1:¬ c%(m+1)=m:=fun z=>q (.inl z);have z2:some (c%(m+1))∉oz:=fun z=>q (.inr z);rw[decide_eq_false z1]at t1;rw[decide_eq_false z2]at t2;refine⟨some (c%(m+1)),w.app_some (by omega) z2,(pre _).trans ((aZ ((cR ((dR t1).trans t2)).trans (aZ (ja (d:=.lst (oz.map oD)) (ds:=[nD (c%(m+1))]) rfl rfl (aL (d:=nD (c%(m+1))) rfl aO) (kU Y))))).trans ?_)⟩;show Out.nx [_,_,_,some (D.lst (oz.map oD++[nD (c%(m+1))])),_,_]=_;rw[P_];rfl
  obtain⟨o,w',hs⟩:=step;obtain⟨c',U,x',y',h1,h2,h3⟩:=HC n m hm l (c/(m+1)) (oz++[o]) (some (nD h)) (some (nD (c%(m+1)))) w' (by simp at hl ⊢;omega);refine⟨c',U,x',y',h1,by rw[h2];simp;omega,?_⟩;rw[<-h3];exact fH (r1:=[some (nD c),some (nD n),some (nD m),some (.lst (oz.map oD)),some (nD h),y]) rfl hs
theorem RM(c n m:Nat)(hn:n<=60)(hm:m<=60):∃oz:List (Option Nat),Own oz m/\oz.length=n/\xH [nD c,nD n,nD m]=.ok (OD oz):=by obtain⟨c',U,x',y',h1,h2,h3⟩:=HC n m hm (e_ n) c [] none none ⟨fun x hx=>(nomatch hx),fun h k x e=>by unfold own at e;simp at e⟩ (by simp;omega);refine⟨U,h1,by rw[h2];simp,cU (B:=CZ) (n:=6) ?_⟩;unfold CZ;refine(aZ (cH (d:=.lst []) (iz aO (by simp)))).trans ?_;refine(aZ ((fL (ds:=(e_ n).map nD) (jV (aL (d:=nD n) rfl aO) (jT (by omega)))).trans h3)).trans ?_;exact cG (cP (dc (aL (d:=.lst (U.map oD)) rfl aO) rfl))
end Law
namespace Law
open PySem PyProof.Rows L2 DL
theorem EY(a b:Nat):eqs (nD a) (nD b)=decide (a=b):=by show(((a:Nat):Int)==(b:Int))=_;rw[T_,beq_iff_eq,decide_eq_true_iff];exact Qcj
theorem GZ(k:Nat):∀l:List Nat,k∈l->mC (nD k) (l.map nD)=some (l.idxOf k)
|[],h=>by cases h
|a::l,h=>by
  show(if eqs (nD a) (nD k)=true then some 0 else(mC (nD k) (l.map nD)).map (· + 1))=_;rw[EY];by_cases e:a=k
  .rw[if_pos (by simpa using e)];subst e;simp
  .rw[if_neg (by simpa using e),GZ k l ((t_.mp h).resolve_left fun z=>e z.symm)];have hf:(a==k)=false:=by simpa using e
   rw[Qfp,hf];rfl
theorem GX(k:Nat):∀l:List Nat,(l.map nD).eraseIdx (l.idxOf k)=(l.erase k).map nD
|[]=>rfl
|a::l=>by
  by_cases e:a=k
  .subst e;simp
  .rw[Qfp,List.erase_cons_tail (by simpa using e)];have:(a==k)=false:=by simpa using e
   rw[this];show nD a::(l.map nD).eraseIdx (l.idxOf k)=_;rw[GX k l];rfl
theorem NX{k:Nat}{l:List Nat}(h:k∈l):remD (LN l) [nD k]=some (LN (l.erase k)):=by show(if (l.map nD).all isInt=true then(mC (nD k) (l.map nD)).map fun j=>D.lst ((l.map nD).eraseIdx j)else none)=_;rw[if_pos (by rw[Qbb];intro x hx;obtain⟨y,_,rfl⟩:=A_.mp hx;rfl),GZ k l h];show some (D.lst _)=some (D.lst _);rw[GX]
theorem Am{T:String}{fo:FE}{fl:aQ->Res (List D)}{k:D->List D->Option D}{r:aQ}{d d':D}{ds:List D}(h1:fo r=.ok d)(ht:zY T d=true)(h2:fl r=.ok ds)(h3:k d ds=some d'):fM T fo fl k r=.ok d':=by unfold fM;rw[h1,bind_ok,if_pos ht,h2,bind_ok,h3];rfl
section
variable{rz:List (List Nat)}{oz:List (Option Nat)}{o:Option (List Nat)}{n m:Nat}
theorem Scene.ne(S:Scene rz oz o n m):rz≠[]:=by
 rintro rfl
 have:=S.rl;have:=S.n1;simp at *;omega
theorem Scene.row(S:Scene rz oz o n m){h:Nat}(hh:h<n):(Wr rz h).Perm (e_ m):=by unfold Wr;rw[f_ (by rw[S.rl];exact hh)];exact S.rp _ (QaD _)
theorem Scene.row0(S:Scene rz oz o n m):(rz.headD []).length=m:=by cases rz with
|nil=>exact absurd rfl S.ne
|cons r t=>rw[List.headD_cons,(S.rp r j_).length_eq];simp
theorem Scene.line_perm(S:Scene rz oz o n m):(s0 rz o).line.Perm (e_ n):=by unfold s0;cases o with
|none=>rw[S.rl];exact QfK _
|some l=>exact S.op l rfl
theorem Scene.mem(S:Scene rz oz o n m){h:Nat}:h∈(s0 rz o).line↔h<n:=by rw[S.line_perm.mem_iff];exact z_
theorem Scene.things(S:Scene rz oz o n m):(s0 rz o).things=e_ m:=by unfold s0;rw[S.row0]
theorem Scene.ok(S:Scene rz oz o n m):Rg.Ok (Wr rz) (own oz) (s0 rz o) where
 nl:=S.line_perm.nodup_iff.mpr Qav
 nt:=by rw[S.things];exact Qav
 le:=by rw[S.things,S.line_perm.length_eq];simp;exact S.nm
 row:=fun h hh x hx=>by rw[S.things]at hx;exact(S.row (S.mem.mp hh)).mem_iff.mpr hx
 inj:=S.ow.inj
 own:=fun h hh x hx=>by rw[S.things];exact z_.mpr (S.ow.lt x (Bb hx).1)
theorem Scene.snd(S:Scene rz oz o n m):Snd rz oz (s0 rz o) where
 ok:=S.ok
 inr:=fun h hh=>by rw[S.rl];exact S.mem.mp hh
 ino:=fun h hh=>by rw[S.ol];exact S.mem.mp hh
 wid:=fun h hh=>by have:=(S.row (S.mem.mp hh)).length_eq;have:=S.m8;simp at *;omega
 nl:=by have:=S.line_perm.length_eq;have:=S.n7;simp at *;omega
 nt:=by rw[S.things];have:=S.m8;simp;omega
theorem Scene.ord(S:Scene rz oz o n m):∀l,o=some l->l.Nodup/\(∀k∈l,k<rz.length)/\l.length=rz.length:=by
 intro l hl;have p:=S.op l hl;refine⟨p.nodup_iff.mpr Qav,fun k hk=>?_,?_⟩
 .rw[S.rl];exact z_.mp (p.mem_iff.mp hk)
 .rw[p.length_eq,S.rl];simp
end
theorem Cf:∀l l':List Nat,Qao (zcM (l.map nD)) (zcM (l'.map nD))=decide (l=l')
|[],[]=>by simp[zcM,Qao]
|[],k::l=>by simp[zcM,Qao]
|k::l,[]=>by simp[zcM,Qao]
|k::l,k'::l'=>by have ih:=Cf l l';simp only[o_,zcM,cu,Qao,Qbe,ih];rw[T_];simp;omega
theorem uM{l:List Nat}{k:Nat}:∀d∈l.map nD,dk k d:=by intro d hd;obtain⟨x,_,rfl⟩:=A_.mp hd;cases k <;> trivial
theorem LY(l l':List Nat):gZ (TN l) (TN l')=some (decide (l=l')):=by rw[rH rfl (lG.mpr uM) (lG.mpr uM)];unfold lf;simp only[cu,Qbe,Cf]
theorem LX(l l':List Nat):gZ (LN l) (LN l')=some (decide (l=l')):=by rw[rH rfl (vG.mpr uM) (vG.mpr uM)];unfold lf;simp only[cu,Qbe,Cf]
theorem EW(l:List Nat):gZ (TN l) (TN l)=some true:=by rw[LY,decide_eq_true rfl]
theorem V7(l:List Nat):gZ (LN l) (LN l)=some true:=by rw[LX,decide_eq_true rfl]
theorem V8(l:List Nat):eqD (TN l) (TN l)=some (.bl true):=by unfold eqD;rw[EW];rfl
theorem Wo(l:List Nat):neD (TN l) (TN l)=some (.bl false):=by unfold neD;rw[EW];rfl
theorem uC(l:List Nat):neD (LN l) (LN l)=some (.bl false):=by unfold neD;rw[V7];rfl
theorem HW{l:List Nat}{i:Nat}(h:i<=l.length):sN (LN l) (some (i:Int)) none=some (LN (l.drop i)):=by show some (D.lst (gC (l.map nD) (some (i:Int)) none))=_;unfold gC;rw[HT.jf,HT.ie,l_,Qfq h];rw[QdV (by simp)];show some (D.lst _)=some (D.lst ((l.drop i).map nD));rw[Qf1]
theorem Bc{f:FE}{r:aQ}{i:Int}(h:f r=.ok (.int i)):pq f r=.ok (some i):=by unfold pq;rw[h];rfl
theorem Av{fa:FE}{fl fh:FP}{r:aQ}{d d':D}{lo hi:Option Int}(h1:fa r=.ok d)(h2:fl r=.ok lo)(h3:fh r=.ok hi)(h4:sN d lo hi=some d'):oR fa fl fh r=.ok d':=by unfold oR;rw[h1,bind_ok,h2,bind_ok,h3,bind_ok,h4];rfl
theorem Mc{f f':FE}{r:aQ}(h:f r=.ok (.bl true)):qb f f' r=.ok (.bl true):=by unfold qb;rw[h];rfl
theorem Mb{f f':FE}{r:aQ}(h:f r=.ok (.bl false)):qb f f' r=f' r:=by unfold qb;rw[h];rfl
theorem Of{ds:List D}{i:Nat}{v:D}(h:i<ds.length):fP (.lst ds) (nD i) v=some (.lst (ds.set i v)):=by show(jE ds.length (i:Int)).map _=_;unfold jE;rw[if_pos (Qcs i),if_pos (by omega)];simp
theorem lJ{nl:Nat}{cap:List Nat}{fi:FI}{ft:FT}{fe:FE}{r:aQ}{α:Type}{l:List α}(e:α->D)(g:α->D)(h1:fi r=.ok (l.map e))(hl:l.length<=1000)(h:∀a∈l,∃r1,ft (e a) (c7 nl cap r)=some r1/\fe r1=.ok (g a)):eF nl cap fi ft (fun _=>Res.ok true) fe r=.ok (.lst (l.map g)):=by
 have:=kW (q:=fun _=>Res.ok true) e (fun _=>true) g h1 hl fun a ha=>by obtain⟨r1,q1,q2⟩:=h a ha;exact⟨r1,q1,rfl,fun _=>q2⟩
 rw[this,wP]
end Law
section
set_option exponentiation.threshold 3000
namespace Law
open PySem PyProof.Rows L2 DL Fq
abbrev FR(x:Int×Nat):D:=.tup [.int x.1,nD x.2]
abbrev TF(l:List (Int×Nat)):D:=.tup (l.map FR)
theorem Ph:o7=2^2000:=rfl
theorem AL{a k:Nat}(h:a<2^k)(hk:k<=2000):a<o7:=by rw[Ph];exact G_ h (Nat.pow_le_pow_right (by omega) hk)
theorem kZ{a b:Int}{k l:Nat}(h1:a.natAbs<2^k)(h2:b.natAbs<2^l)(hk:k<=2000)(hl:l<=2000):eR (.int a) (.int b)=some (.int (a*b)):=by rw[eR,intsC_int,if_pos ⟨AL h1 hk,AL h2 hl⟩]
theorem II{a:Int}{b k:Nat}(h0:0<b)(h1:b<2^k)(hk:k<=2000):qv (.int a) (nD b)=some (.int (a/(b:Int))):=by rw[qv,intsC_int,if_pos ⟨by omega,by rw[O_];exact AL h1 hk⟩]
theorem Fh(b:Nat):neD (nD b) (.int 0)=some (.bl (! decide (b=0))):=Wp b 0
theorem QY{m:List Md}:∀(k n:Nat)(a:Int)(b:Nat)(x:Option D),b<2^k->2*k+1<=n ->∃(a':Int)(y:Option D),gp m sC sB n [some (.int a),some (nD b),x]=.nx [some (.int a'),some (nD 0),y]/\a'.natAbs=Qa4 a b:=by
 have z0:∀(n:Nat)(a:Int)(x:Option D),1<=n->∃(a':Int)(y:Option D),gp m sC sB n [some (.int a),some (nD 0),x]=.nx [some (.int a'),some (nD 0),y]/\a'.natAbs=Qa4 a 0:=by
  intro n a x hn;obtain⟨n,rfl⟩:∃k,n=k+1:=⟨n-1,by omega⟩
  exact⟨a,x,vP (cW (aX (a:=nD 0) (b:=.int 0) rfl rfl (Fh 0))),by simp⟩
 have st:∀(n:Nat)(a:Int)(b:Nat)(x:Option D),0<b->gp m sC sB (n+1) [some (.int a),some (nD b),x]=gp m sC sB n [some (nD b),some (nD (a%(b:Int)).toNat),some (nD (a%(b:Int)).toNat)]:=by
  intro n a b x hb;have hne:=Fh b;rw[decide_eq_false (by omega)]at hne;refine vQ (cW (aX (a:=nD b) (b:=.int 0) rfl rfl hne)) ?_;refine(aZ (cH (d:=nD (a%(b:Int)).toNat) (aX (a:=.int a) (b:=nD b) rfl rfl ?_))).trans ?_
  .rw[A9 (by omega)];show some (D.int _)=some (D.int _);rw[Qc4 (Qd4 _ (by omega))]
  refine(aZ (cH (d:=nD b) rfl)).trans ?_;exact aZ (cH (d:=nD (a%(b:Int)).toNat) rfl)
 have hr:∀(a:Int)(b:Nat),0<b->(((a%(b:Int)).toNat:Nat):Int)=a%(b:Int)/\(a%(b:Int)).toNat<b:=by intro a b hb;have h1:=Qd4 a (show(b:Int)≠0 by omega);have h2:=Int.emod_lt_of_pos a (show(0:Int)<b by omega);exact⟨Qc4 h1,by omega⟩
 intro k
 induction k with
|zero=>
  intro n a b x hb hn;have:b=0:=by have:(2:Nat)^0=1:=rfl;omega
  subst this;exact z0 n a x (by omega)
|succ k ih=>
  intro n a b x hb hn;by_cases h0:b=0
  .subst h0;exact z0 n a x (by omega)
  .have hbp:0<b:=by omega
   obtain⟨n,rfl⟩:∃j,n=j+2:=⟨n-2,by omega⟩
   obtain⟨r1,r2⟩:=hr a b hbp;have e1:=st (n+1) a b x hbp;generalize(a%(b:Int)).toNat=r at r1 r2 e1;rw[e1,IK a b,<-r1];by_cases hz:r=0
   .subst hz;exact z0 (n+1) b _ (by omega)
   .obtain⟨s1,s2⟩:=hr (b:Int) r (by omega);have e2:=st n (b:Int) r (some (nD r)) (by omega);have hs:((b:Int)%(r:Int)).toNat=b%r:=by omega
    rw[hs]at s1 s2 e2;rw[e2,IK (b:Int) r,<-s1];refine ih n (r:Int) (b%r) _ ?_ (by omega);have h3:b%r<r:=Qdp _ (by omega);have h4:b%r<=b-r:=by have:=Nat.mod_eq_sub_mod (show r<=b by omega);rw[this];exact Nat.mod_le _ _
    rw[QeZ]at hb;omega
theorem Ud{a:Int}{b k:Nat}(hb:b<2^k)(hk:k<=499):zM [.int a,nD b]=.ok (nD (Qa4 a b)):=by obtain⟨a',y,h1,h2⟩:=QY (m:=ee) k 1000 a b none hb (by omega);refine cU (B:=DS) (n:=3) ?_;unfold DS;refine(aZ h1).trans (cG (cP (dc (aL (d:=.int a') rfl aO) ?_)));show some (D.int (if a'<0 then-a' else a'))=some (D.int _);rw[<-h2];split <;> congr 2 <;> omega
theorem mS(x:Int×Nat):bY (FR x) (.int 0)=some (.int x.1):=rfl
theorem mT(x:Int×Nat):bY (FR x) (.int 1)=some (nD x.2):=pb (i:=1) rfl
theorem IG:∀l:List (Int×Nat),Qao (zcM (l.map FR)) (zcM (l.map FR))=true
|[]=>by simp[zcM,Qao]
|x::l=>by have ih:=IG l;simp only[o_,zcM,cu,Qao,Qbe,ih];simp
theorem V4{l:List (Int×Nat)}{k:Nat}:∀d∈l.map FR,dk (k+1) d:=by intro d hd;obtain⟨x,_,rfl⟩:=A_.mp hd;refine lG.mpr ?_;intro e he;simp at he;rcases he with rfl|rfl <;> (cases k <;> trivial)
theorem P6{B:FS}{n:Nat}{ds:List D}{d:D}(h:B (bL n ds)=.rt d):aT true (B (bL n ds))=.ok d:=by rw[h];rfl
theorem Jz(i:Int):nb [.int i]=.ok (.bl true):=rfl
theorem pZ{t:Int}{b k:Nat}(h0:0<b)(hb:b<2^k)(hk:k<=499):ic [.int t,nD b]=.ok (FR (low t b)):=by
 refine cU (B:=Ck) (n:=3) ?_;unfold Ck;have hg:=Bx t h0;have U:Qa4 t b<2^k:=by have h1:Qa4 t b∣b:=QdG.mp (Qbr t b);have:=QfY h0 h1;omega
 refine(aZ ((cR ?_).trans (e_skip _))).trans ?_
 .rw[dR (iL (b:=true) (eZ (bN (aL (d:=.int t) rfl aO) (Jz t)) rfl)),dR (iL (b:=true) (eZ (bN (aL (d:=nD b) rfl aO) (Jz b)) rfl))];have:=i8 b 0;rw[decide_eq_false (by omega)]at this;exact cW (aX (a:=nD b) (b:=nD 0) rfl rfl this)
 refine(aZ (cH (bN (aL (d:=.int t) rfl (aL (d:=nD b) rfl aO)) (Ud hb hk)))).trans ?_;refine(aZ ((cR ?_).trans (e_skip _))).trans ?_
 .have:=nz b 0;rw[decide_eq_false (by omega)]at this;exact cW (aX (a:=nD b) (b:=nD 0) rfl rfl this)
 refine cG (cP (nI (aL (aX (a:=.int t) (b:=nD (Qa4 t b)) rfl rfl (II hg U (by omega))) (aL (aX (a:=nD b) (b:=nD (Qa4 t b)) rfl rfl (II hg U (by omega))) aO)) (by simp)))
end Law
end
section
set_option exponentiation.threshold 3000
namespace Law
open PySem PyProof.Rows L2 DL Fq
abbrev QF(z:Nat):D:=FR (Qd (z:Int))
section
variable{k l:Nat}{a b:Int×Nat}
theorem RN(ha:Bd k a)(hb:Bd l b)(hl:k+l<=498):nG [FR a,FR b]=.ok (FR (Fg a b)):=by
 refine cU (B:=AH) (n:=2) ?_;unfold AH;have i0:=mS a;have i1:=mT a;have j0:=mS b;have j1:=mT b;refine cG (cP (bN (aL (aX (aX (aX (a:=FR a) rfl rfl i0) (aX (a:=FR b) rfl rfl j1) (kZ ha.top (by rw[O_];exact hb.bot) (by omega) (by omega))) (aX (aX (a:=FR b) rfl rfl j0) (aX (a:=FR a) rfl rfl i1) (kZ hb.top (by rw[O_];exact ha.bot) (by omega) (by omega))) rfl)
  (aL (d:=nD (a.2*b.2)) (aX (aX (a:=FR a) rfl rfl i1) (aX (a:=FR b) rfl rfl j1) ?_) aO)) ?_))
 .rw[kZ (k:=k) (l:=l) (by rw[O_];exact ha.bot) (by rw[O_];exact hb.bot) (by omega) (by omega)];show some (D.int _)=some (D.int _);rw[QaC]
 .exact pZ (pR ha hb).1 (pR ha hb).2 (by omega)
theorem SZ(ha:Bd k a)(hb:Bd l b)(hl:k+l<=498):rc [FR a,FR b]=.ok (FR (Gh a b)):=by
 refine cU (B:=Bh) (n:=2) ?_;unfold Bh;have i0:=mS a;have i1:=mT a;have j0:=mS b;have j1:=mT b;refine cG (cP (bN (aL (aX (aX (aX (a:=FR a) rfl rfl i0) (aX (a:=FR b) rfl rfl j1) (kZ ha.top (by rw[O_];exact hb.bot) (by omega) (by omega))) (aX (aX (a:=FR b) rfl rfl j0) (aX (a:=FR a) rfl rfl i1) (kZ hb.top (by rw[O_];exact ha.bot) (by omega) (by omega))) rfl)
  (aL (d:=nD (a.2*b.2)) (aX (aX (a:=FR a) rfl rfl i1) (aX (a:=FR b) rfl rfl j1) ?_) aO)) ?_))
 .rw[kZ (k:=k) (l:=l) (by rw[O_];exact ha.bot) (by rw[O_];exact hb.bot) (by omega) (by omega)];show some (D.int _)=some (D.int _);rw[QaC]
 .exact pZ (pR ha hb).1 (pR ha hb).2 (by omega)
theorem Jy(ha:Bd k a)(hb:Bd l b)(hl:k+l<=498):lD [FR a,FR b]=.ok (FR (AZ a b)):=by
 refine cU (B:=Bi) (n:=2) ?_;unfold Bi;have i0:=mS a;have i1:=mT a;have j0:=mS b;have j1:=mT b;refine cG (cP (bN (aL (aX (aX (a:=FR a) rfl rfl i0) (aX (a:=FR b) rfl rfl j0) (kZ ha.top hb.top (by omega) (by omega)))
  (aL (d:=nD (a.2*b.2)) (aX (aX (a:=FR a) rfl rfl i1) (aX (a:=FR b) rfl rfl j1) ?_) aO)) ?_))
 .rw[kZ (k:=k) (l:=l) (by rw[O_];exact ha.bot) (by rw[O_];exact hb.bot) (by omega) (by omega)];show some (D.int _)=some (D.int _);rw[QaC]
 .exact pZ (pR ha hb).1 (pR ha hb).2 (by omega)
theorem RL(ha:Bd k a)(hb:Bd l b)(hk:k<=2000)(hl:l<=2000):q9 [FR a,FR b]=.ok (.bl (Aj a b)):=by refine cU (B:=AG) (n:=2) ?_;unfold AG;have i0:=mS a;have i1:=mT a;have j0:=mS b;have j1:=mT b;exact cG (cP (aX (aX (aX (a:=FR a) rfl rfl i0) (aX (a:=FR b) rfl rfl j1) (kZ ha.top (by rw[O_];exact hb.bot) (by omega) (by omega))) (aX (aX (a:=FR b) rfl rfl j0) (aX (a:=FR a) rfl rfl i1) (kZ hb.top (by rw[O_];exact ha.bot) (by omega) (by omega))) rfl))
end
theorem rp{a b:Nat}(ha:a<=DD)(hb:b<=DD):nG [QF a,QF b]=.ok (QF (a+b)):=by have:=RN (mI ha) (mI hb) (by omega);rw[Pd,<-Qfo]at this;exact this
theorem rm{a b:Nat}(ha:a<=DD)(hb:b<=a):rc [QF a,QF b]=.ok (QF (a-b)):=by have:=SZ (mI ha) (mI (L_ hb ha)) (by omega);rw[Re,<-Int.natCast_sub hb]at this;exact this
theorem EK{c:Nat}(h:c<=7):Bd 3 ((c:Int),1):=⟨by show 0<1;decide,by show 1<8;decide,by rw[O_];show c<8;omega⟩
theorem EL{c:Nat}(h0:0<c)(h:c<=7):Bd 3 ((1:Int),c):=⟨h0,by show c<8;omega,by show 1<8;decide⟩
theorem rt{c a:Nat}(hc:c<=7)(ha:a<=DD):lD [FR ((c:Int),1),QF a]=.ok (QF (c*a)):=by have:=Jy (EK hc) (mI ha) (by omega);rw[Rh,<-QaC]at this;exact this
theorem rd{c a:Nat}(h0:0<c)(hc:c<=7)(ha:a<=DD)(hd:c∣a):lD [QF a,FR ((1:Int),c)]=.ok (QF (a/c)):=by have:=Jy (mI ha) (EL h0 hc) (by omega);rw[Mo h0 hd]at this;exact this
theorem rl{a b:Nat}(ha:a<=DD)(hb:b<=DD):q9 [QF a,QF b]=.ok (.bl (decide (a<b))):=by have:=RL (mI ha) (mI hb) (by omega) (by omega);rw[Pc]at this;rw[this];simp only[Qe0]
theorem WS{c:Nat}(h0:0<c)(hc:c<=7):ic [.int 1,nD c]=.ok (FR ((1:Int),c)):=by have:=pZ (t:=1) (b:=c) (k:=3) h0 (by show c<8;omega) (by omega);rw[low_1]at this;exact this
theorem WR(c:Nat):ic [nD c,.int 1]=.ok (FR ((c:Int),1)):=by have:=pZ (t:=(c:Int)) (b:=1) (k:=1) (by decide) (by decide) (by omega);rw[oO]at this;exact this
theorem JV{d0:D}:∀(l:List Nat)(m:Nat)(x:Option D),m<=DD->(∀y∈l,y<=DD)->∃x',bM (bS 2) Jq (l.map QF) [some d0,some (QF m),x]=.nx [some d0,some (QF (l.foldl (fun m y=>if y<m then y else m) m)),x']
|[],m,x,_,_=>⟨x,gq⟩
|y::l,m,x,hm,hl=>by
  have hy:=hl y j_;obtain⟨x',ih⟩:=JV (d0:=d0) l (if y<m then y else m) (some (QF y)) (by split <;> assumption) (fun z hz=>hl z (k_ _ hz));refine⟨x',?_⟩;rw[o_,Qcm,<-ih];refine fH (r1:=[some d0,some (QF m),some (QF y)]) rfl ?_;have t:=rl hy hm;by_cases h:y<m
  .rw[decide_eq_true h]at t;rw[if_pos h];exact aZ ((eU (eZ (bN (aL (d:=QF y) rfl (aL (d:=QF m) rfl aO)) t) rfl)).trans (aZ (cH (d:=QF y) rfl)))
  .rw[decide_eq_false h]at t;rw[if_neg h];exact aZ ((cR (eZ (bN (aL (d:=QF y) rfl (aL (d:=QF m) rfl aO)) t) rfl)).trans (e_skip _))
theorem SV{l:List Nat}(h:l≠[])(hl:∀y∈l,y<=DD):vJ [.lst (l.map QF)]=.ok (QF (Et.eS l)):=by cases l with
|nil=>exact absurd rfl h
|cons x l=>obtain⟨x',e⟩:=JV (d0:=.lst ((x::l).map QF)) (x::l) x none (hl x j_) hl;rw[Qcm,if_neg (QaB x)]at e;refine cU (B:=Bg) (n:=3) ?_;unfold Bg;refine(aZ (cH (d:=QF x) (aX (a:=.lst ((x::l).map QF)) (b:=.int 0) rfl rfl (ixA_L0 _ _)))).trans ?_;refine(aZ ((fL (mW (d:=.lst ((x::l).map QF)) rfl rfl)).trans e)).trans ?_;exact cG (cP (d:=QF (Et.eS (x::l))) rfl)
abbrev LD(T:List Nat)(a:Nat->Nat):D:=.dic (T.map fun x=>(kI x,QF (a x)))
theorem Gd(f:Nat->D):∀{T:List Nat}{x:Nat},x∈T->cS (T.map fun x=>(kI x,f x)) (kI x)=some (f x)
|[],_,h=>by cases h
|y::T,x,h=>by
  by_cases e:y=x
  .subst e;simp[cS,X_]
  .have hne:¬ kI y=kI x:=fun z=>e (uW z);have ih:=Gd f (T:=T) (x:=x) ((t_.mp h).resolve_left fun z=>e z.symm);have e1:cS ((y::T).map fun x=>(kI x,f x)) (kI x)=cS (T.map fun x=>(kI x,f x)) (kI x):=by simp only[cS,o_,X_];rw[decide_eq_false hne]
   rw[e1];exact ih
theorem qt{T:List Nat}{a:Nat->Nat}{x:Nat}(h:x∈T):bY (LD T a) (nD x)=some (QF (a x)):=uH (Gd (fun x=>QF (a x)) h)
theorem Gf(f:Nat->D)(T:List Nat)(x:Nat):dE (T.map fun x=>(kI x,f x)) (kI x)=decide (x∈T):=by
 have:=uV (T.map fun y=>(y,f y)) x;rw[R_,R_]at this;have e:QfL ((fun p:Nat×D=>p.1)∘fun y=>(y,f y)) T=T:=by have:((fun p:Nat×D=>p.1)∘fun y=>(y,f y))=id:=rfl;rw[this,List.map_id]
 rw[e]at this;exact this
theorem Wh(T:List Nat)(a:Nat->Nat)(x:Nat):ji (nD x) (LD T a)=some (.bl (decide (x∈T))):=by show(Qgb _ ((fY (nD x)).map (dE (T.map fun x=>(kI x,QF (a x))))))=_;show some (D.bl (dE (T.map fun x=>(kI x,QF (a x))) (kI x)))=_;rw[Gf]
theorem Nd(T:List Nat)(a:Nat->Nat)(x:Nat):fV (nD x) (LD T a)=some (.bl (! decide (x∈T))):=by show(Qgb _ ((fY (nD x)).map (dE (T.map fun x=>(kI x,QF (a x))))))=_;show some (D.bl (! dE (T.map fun x=>(kI x,QF (a x))) (kI x)))=_;rw[Gf]
theorem A6(T:List Nat)(f:Nat->D):lx (.dic (T.map fun x=>(kI x,f x)))=some (T.map nD):=by show some ((T.map fun x=>(kI x,f x)).map fun kv=>oP kv.1)=_;rw[R_];rfl
theorem A7{f:FE}{r:aQ}{d:D}{ds:List D}(h:f r=.ok d)(h2:lx d=some ds):bP lx f r=.ok ds:=by unfold bP;rw[h,bind_ok,h2];rfl
theorem AY{T:List Nat}{f:Nat->D}{x:Nat}(h:x∉T)(hl:T.length<=1000):fP (.dic (T.map fun x=>(kI x,f x))) (nD x) (f x)=some (.dic ((T++[x]).map fun x=>(kI x,f x))):=by
 show(if (T.map fun x=>(kI x,f x)).length<sizeLine then some (D.dic (dQ _ (kI x) (f x)))else none)=_;rw[if_pos (by rw[l_,Qaa];omega)];have:=Il (T.map fun y=>(y,f y)) x (f x) (by rw[R_];simpa[QbV]using h);rw[R_]at this;show some (D.dic (dQ (T.map fun x=>(kI x,f x)) (kI x) (f x)))=_;have e:dQ (T.map fun x=>(kI x,f x)) (kI x) (f x)=(T++[x]).map fun x=>(kI x,f x):=by refine QdI this ?_;rw[P_,R_,P_];rfl
 rw[e]
theorem SR{row T:List Nat}{a:Nat->Nat}(h:∃x∈row,x∈T)(hl:row.length<=1000):iF [TN row,LD T a]=.ok (nD (Rg.best row T)):=by
 refine cU (B:=sd) (n:=2) ?_;unfold sd;have hc:(eF 1 [1] (bP dy (gv 0)) (bS 0) (bW (f2 (gv 0) (gv 1) ji)) (gv 0)) [some (TN row),some (LD T a)]=.ok (LN (row.filter fun x=>decide (x∈T))):=by
  refine kW nD (fun x=>decide (x∈T)) nD (l:=row) rfl hl fun x _=>⟨[some (nD x),some (LD T a)],rfl,?_,fun _=>rfl⟩
  exact cW (aX (a:=nD x) (b:=LD T a) rfl rfl (Wh _ _ _))
 have hb:∃t,(row.filter fun x=>decide (x∈T))=Rg.best row T::t:=by unfold Rg.best;rw[CT];cases e:row.filter fun x=>decide (x∈T)with
 |nil=>obtain⟨x,h1,h2⟩:=h;have:x∈row.filter fun x=>decide (x∈T):=D_.mpr ⟨h1,by simpa using h2⟩;rw[e]at this;cases this
 |cons a t=>exact⟨t,rfl⟩
 obtain⟨t,ht⟩:=hb;rw[ht]at hc;exact cG (cP (aX hc (b:=.int 0) rfl (ixA_L0 _ _)))
theorem Bp(l:List Nat)(t:Nat):nJ (LN l) [nD t]=some (nD (l.count t)):=by
 show(if eG (nD t)=true/\(l.map nD).all eG=true then some (D.int (((l.map nD).countP fun z=>eqs z (nD t):Nat):Int))else none)=_;rw[if_pos ⟨rfl,An l⟩,Qfn];show some (D.int ((l.countP ((fun z=>eqs z (nD t))∘nD):Nat):Int))=some (D.int ((l.count t:Nat):Int));have:(fun z=>eqs z (nD t))∘nD=fun z=>z==t:=by funext z;show eqs (nD z) (nD t)=_;rw[EY];by_cases h:z=t <;> simp[h]
 rw[this];rfl
theorem LW(p q:Int×Nat):gZ (FR p) (FR q)=some (decide (p=q)):=by
 have sh:∀x:Int×Nat,dk 60 (FR x):=fun x=>lG.mpr fun e he=>by simp at he;rcases he with rfl|rfl <;> trivial
 rw[rH rfl (sh p) (sh q)];unfold lf;simp only[cu,zcM,Qbe,Qao];congr 1;rw[T_];simp;constructor
 .rintro⟨h1,h2⟩
  exact Qf9 h1 (by omega)
 .rintro rfl
  exact⟨rfl,rfl⟩
theorem Na(p q:Int×Nat):neD (FR p) (FR q)=some (.bl (! decide (p=q))):=by unfold neD;rw[LW];rfl
theorem Nb(a:Nat):neD (QF a) (.tup [.int 0,.int 1])=some (.bl (decide (a≠0))):=by
 have:=Na (Qd (a:Int)) (0,1);rw[<-mi]at this;have e:decide (Qd (a:Int)=Qd 0)=decide (a=0):=by
  rw[T_,decide_eq_true_iff,decide_eq_true_iff];constructor
  .intro h;have:=Mp h;omega
  .rintro rfl;rfl
 rw[e]at this;rw[mi]at this;refine QdI this ?_;simp
end Law
end
section
set_option exponentiation.threshold 3000
namespace Law
open PySem PyProof.Rows L2 DL Fq
structure Sq(rz:List (List Nat))(n:Nat):Prop where
 n1:1<=n
 n7:n<=7
 rl:rz.length=n
 rp:∀row∈rz,row.Perm (e_ n)
variable{rz:List (List Nat)}{n:Nat}
theorem Sq.row(R:Sq rz n){h:Nat}(hh:h<n):(Wr rz h).Perm (e_ n):=by unfold Wr;rw[f_ (by rw[R.rl];exact hh)];exact R.rp _ (QaD _)
theorem Sq.rw(R:Sq rz n):Et.Rw (Wr rz) n:=⟨R.n1,R.n7,fun h x hh hx=>(R.row hh).mem_iff.mpr (z_.mpr hx)⟩
theorem Sq.len(R:Sq rz n):lenD [WD rz]=some (nD n):=by rw[nV,R.rl]
theorem Sq.things(R:Sq rz n):eL [WD rz]=.ok (nD n):=by cases e:rz with
|nil=>have:=R.rl;have:=R.n1;rw[e]at *;simp at *;omega
|cons r rest=>rw[Cy,(R.rp r (by rw[e];exact j_)).length_eq,QaV]
theorem Sq.map(R:Sq rz n):rz=(e_ n).map (Wr rz):=by
 refine QcH fun i=>?_;rw[u_];by_cases hi:i<n
 .rw[Qax hi,f_ (by rw[R.rl];exact hi)];unfold Wr;rw[Qck,f_ (by rw[R.rl];exact hi)];rfl
 .rw[Qal (by rw[R.rl];omega),Qal (by simp;omega)];rfl
theorem RQ{T ts:List Nat}{a:Nat->Nat}(hne:ts≠[])(hl:ts.length<=7)(h:∀x∈ts,x∈T/\ts.count x∣a x/\a x<=DD):zS [LD T a,LN ts]=.ok (QF (Et.eS (ts.map fun x=>a x/ts.count x))):=by
 refine cU (B:=DW) (n:=2) ?_;unfold DW;have hc:(eF 1 [0,1] (bP dy (gv 1)) (bS 0) (fun _=>Res.ok true) (bI (aI (f2 (gv 1) (gv 0) bY) (aI (bI (aI (ci 1) (aI (fM "list" (gv 2) (aI (gv 0) aH) nJ) aH)) [] ic) aH)) [] lD)) [some (LD T a),some (LN ts)]=.ok (.lst ((ts.map fun x=>a x/ts.count x).map QF)):=by
  rw[R_];refine lJ (l:=ts) nD (fun x=>QF (a x/ts.count x)) rfl (by omega) fun x hx=>⟨[some (nD x),some (LD T a),some (LN ts)],rfl,?_⟩
  obtain⟨h1,h2,h3⟩:=h x hx;have h4:0<ts.count x:=QeD.mpr hx;have h5:ts.count x<=7:=L_ QcX hl;exact bN (aL (aX (a:=LD T a) (b:=nD x) rfl rfl (qt h1)) (aL (bN (aL (d:=.int 1) rfl (aL (Am (d:=LN ts) rfl rfl (aL (d:=nD x) rfl aO) (Bp ts x)) aO)) (WS h4 h5)) aO)) (rd h4 h5 h3 h2)
 refine cG (cP (bN (aL hc aO) (SV (by simpa using hne) fun y hy=>?_)));obtain⟨x,hx,rfl⟩:=A_.mp hy;exact L_ (Qd2 _ _) (h x hx).2.2
theorem GO{T ts:List Nat}{a:Nat->Nat}{s:Nat}(hs:s<=DD)(U:ts.length<=7)(hT:T.length<=60)(ha:∀x∈T,a x<=DD)(hm:∀x,ts.count x*s<=a x):∀(l done:List Nat)(x4 x5:Option D),(done++l).Nodup->(∀x∈done++l,x∈T)->done.length+l.length<=60 ->∃y4 y5,bM (bS 4) K0 (l.map nD) [some (LD T a),some (LN ts),some (QF s),some (LD done fun x=>a x-ts.count x*s),x4,x5]=.nx [some (LD T a),some (LN ts),some (QF s),some (LD (done++l) fun x=>a x-ts.count x*s),y4,y5]
|[],done,x4,x5,_,_,_=>⟨x4,x5,by rw[W_];exact gq⟩
|x::l,done,x4,x5,hn,hin,hl=>by have hx:x∈T:=hin x (by simp);have Y:x∉done:=fun z=>(QbW.mp hn).2.2 x z x j_ rfl;have h5:ts.count x<=7:=L_ QcX U;obtain⟨y4,y5,ih⟩:=GO hs U hT ha hm l (done++[x]) (some (nD x)) (some (FR ((ts.count x:Int),1))) (by simpa using hn) (by simpa using hin) (by simp at hl ⊢;omega);refine⟨y4,y5,?_⟩;rw[Qab,Qbi]at ih;rw[o_,<-ih];refine fH (r1:=[some (LD T a),some (LN ts),some (QF s),some (LD done fun x=>a x-ts.count x*s),some (nD x),x5]) rfl ?_;refine(aZ (cH (bN (aL (Am (d:=LN ts) rfl rfl (aL (d:=nD x) rfl aO) (Bp ts x)) (aL (d:=.int 1) rfl aO)) (WR _)))).trans ?_;exact aZ (lC (d:=LD done fun x=>a x-ts.count x*s) (k:=nD x) (v:=QF (a x-ts.count x*s)) rfl (bN (aL (aX (a:=LD T a) (b:=nD x) rfl rfl (qt hx)) (aL (bN (aL (d:=FR ((ts.count x:Int),1)) rfl (aL (d:=QF s) rfl aO)) (rt h5 hs)) aO)) (rm (ha x hx) (hm x))) rfl (AY (f:=fun x=>QF (a x-ts.count x*s)) Y (by omega)))
theorem SN{T ts:List Nat}{a:Nat->Nat}{s:Nat}(hn:T.Nodup)(hs:s<=DD)(U:ts.length<=7)(hT:T.length<=60)(ha:∀x∈T,a x<=DD)(hm:∀x,ts.count x*s<=a x):xY [LD T a,LN ts,QF s]=.ok (LD T fun x=>a x-ts.count x*s):=by obtain⟨y4,y5,e⟩:=GO hs U hT ha hm T [] none none (by simpa using hn) (by simp) (by simpa using hT);rw[QaY]at e;refine cU (B:=Dp) (n:=6) ?_;unfold Dp;refine(aZ (cH (d:=LD [] fun x=>a x-ts.count x*s) rfl)).trans ?_;refine(aZ ((fL (A7 (d:=LD T a) rfl (A6 T _))).trans e)).trans ?_;exact cG (cP (d:=LD T fun x=>a x-ts.count x*s) rfl)
theorem Ba{T:List Nat}{a:Nat->Nat}:∀(l done:List Nat)(x2:Option D),(done++l).Nodup->(∀x∈l,x∈T)->done.length+l.length<=60 ->∃y2,bM (bS 2) Kz (l.map nD) [some (LD T a),some (LD done a),x2]=.nx [some (LD T a),some (LD (done++l.filter fun x=>decide (a x≠0)) a),y2]
|[],done,x2,_,_,_=>⟨x2,by rw[List.filter_nil,W_];exact gq⟩
|x::l,done,x2,hn,hin,hl=>by
  have hx:x∈T:=hin x (by simp);have U:x∉done:=fun z=>(QbW.mp hn).2.2 x z x j_ rfl;have t:=Nb (a x);by_cases h:a x=0
  .rw[decide_eq_false (fun z=>z h)]at t;obtain⟨y2,ih⟩:=Ba (T:=T) (a:=a) l done (some (nD x)) (hn.sublist (List.Sublist.append_left (List.sublist_cons_self x l) done)) (fun z hz=>hin z (k_ _ hz)) (by simp at hl;omega);refine⟨y2,?_⟩;rw[o_,Qau,if_neg (by simpa using h),<-ih];refine fH (r1:=[some (LD T a),some (LD done a),some (nD x)]) rfl ?_;exact aZ ((cR (cW (aX (aX (a:=LD T a) (b:=nD x) rfl rfl (qt hx)) rfl t))).trans (e_skip _))
  .rw[decide_eq_true h]at t;obtain⟨y2,ih⟩:=Ba (T:=T) (a:=a) l (done++[x]) (some (nD x)) (by simpa using hn) (fun z hz=>hin z (k_ _ hz)) (by simp at hl ⊢;omega);refine⟨y2,?_⟩;rw[Qab,Qbi]at ih;rw[o_,Qau,if_pos (by simpa using h),<-ih];refine fH (r1:=[some (LD T a),some (LD done a),some (nD x)]) rfl ?_;refine aZ ((eU (cW (aX (aX (a:=LD T a) (b:=nD x) rfl rfl (qt hx)) rfl t))).trans ?_);exact aZ (lC (d:=LD done a) (k:=nD x) (v:=QF (a x)) rfl (aX (a:=LD T a) (b:=nD x) rfl rfl (qt hx)) rfl (AY (f:=fun x=>QF (a x)) U (by omega)))
theorem Ut{T:List Nat}{a:Nat->Nat}(hn:T.Nodup)(hT:T.length<=60):wW [LD T a]=.ok (LD (T.filter fun x=>decide (a x≠0)) a):=by obtain⟨y2,e⟩:=Ba (T:=T) (a:=a) T [] none (by simpa using hn) (fun _ h=>h) (by simpa using hT);rw[QaY]at e;refine P6 (B:=Co) (n:=3) ?_;unfold Co;refine(aZ (cH (d:=LD [] a) rfl)).trans ?_;refine(aZ ((fL (A7 (d:=LD T a) rfl (A6 T _))).trans e)).trans ?_;exact cG (cP (d:=LD (T.filter fun x=>decide (a x≠0)) a) rfl)
abbrev mD(p:List Nat×Nat×List Nat):D:=.tup [LN p.1,QF p.2.1,TN p.2.2]
abbrev LM(ms:List (List Nat×Nat×List Nat)):D:=.lst (ms.map mD)
theorem MF(T:List Nat)(a:Nat->Nat):lS (LD T a)=some (! T.isEmpty):=by show some (!(T.map fun x=>(kI x,QF (a x))).isEmpty)=_;rw[List.isEmpty_map]
theorem JW(R:Sq rz n):∀(k:Nat)(T:List Nat)(a:Nat->Nat)(ms:List (List Nat×Nat×List Nat))(x2 x4 x5 x6:Option D),Et.Ok n T a->(∀x∈T,a x<=DD)->T.length<k->T.length<=7->ms.length+T.length<=60 ->∃d1 y2 y4 y5 y6,gp kn Kp Ky k [some (WD rz),some (LD T a),x2,some (LM ms),x4,x5,x6]=.nx [some (WD rz),d1,y2,some (LM (ms++Et.f8 (Wr rz) n k T a)),y4,y5,y6]
|0,T,a,ms,x2,x4,x5,x6,_,_,hk,_,_=>absurd hk (by omega)
|k+1,T,a,ms,x2,x4,x5,x6,S,ha,hk,h7,hms=>by
  by_cases hT:T=[]
  .subst hT;refine⟨some (LD [] a),x2,x4,x5,x6,?_⟩;have e:Et.f8 (Wr rz) n (k+1) [] a=[]:=rfl;rw[e,W_];exact vP (eZ (d:=LD [] a) rfl rfl)
  .have RW:=R.rw;have Cl:=R.n1;have BT:=R.n7;have e:Et.f8 (Wr rz) n (k+1) T a=(Et.tgs (Wr rz) n T,Et.fg (Wr rz) n T a,T.filter fun x=>decide (x∉Et.dJ (Wr rz) n T a))::Et.f8 (Wr rz) n k (Et.dJ (Wr rz) n T a) (Et.dY (Wr rz) n T a):=by show(if T=[]then[]else _)=_;rw[if_neg hT]
   have hlt:=Et.gX RW S hT;have U:(Et.tgs (Wr rz) n T).length=n:=Et.d8;have hin:∀x∈Et.tgs (Wr rz) n T,x∈T:=fun x hx=>Et.dz RW S hT hx;have Y:Et.fg (Wr rz) n T a<=DD:=by obtain⟨x,h1,h2⟩:=Et.iQ (T:=T) (a:=a) RW;rw[h2];exact L_ (Qd2 _ _) (ha x (hin x h1))
   obtain⟨d1,y2,y4,y5,y6,ih⟩:=JW R k (Et.dJ (Wr rz) n T a) (Et.dY (Wr rz) n T a) (ms++[(Et.tgs (Wr rz) n T,Et.fg (Wr rz) n T a,T.filter fun x=>decide (x∉Et.dJ (Wr rz) n T a))]) x2 (some (LN (Et.tgs (Wr rz) n T))) (some (QF (Et.fg (Wr rz) n T a))) (some (LD T (Et.dY (Wr rz) n T a))) (S.next RW hT) (fun x hx=>L_ (Nat.sub_le _ _) (ha x (D_.mp hx).1)) (by omega) (by omega) (by simp;omega);refine⟨d1,y2,y4,y5,y6,?_⟩;rw[Qab,Qbi,<-e]at ih;refine QdI ?_ ih;refine vQ (eZ (d:=LD T a) rfl (by rw[MF];cases T with|nil=>exact absurd rfl hT|cons _ _=>rfl)) ?_;have Z:eF 1 [1] (bP dy (gv 0)) (bS 0) (fun _=>Res.ok true) (bI (aI (gv 0) (aI (gv 1) aH)) [] iF) [some (WD rz),some (LD T a),x2,some (LM ms),x4,x5,x6]=.ok (LN (Et.tgs (Wr rz) n T)):=by
    have hc:=lJ (nl:=1) (cap:=[1]) (fi:=bP dy (gv 0)) (ft:=bS 0) (fe:=bI (aI (gv 0) (aI (gv 1) aH)) [] iF) (r:=[some (WD rz),some (LD T a),x2,some (LM ms),x4,x5,x6]) (l:=e_ n) (fun h=>TN (Wr rz h)) (fun h=>nD (Rg.best (Wr rz h) T)) (by
     refine mW (d:=WD rz) rfl ?_;show some (rz.map TN)=_
     conv=>lhs;rw[R.map]
     rw[R_];rfl) (by simp;omega) fun h hh=>⟨[some (TN (Wr rz h)),some (LD T a)],rfl,?_⟩
    .rw[hc];show Res.ok (D.lst _)=Res.ok (D.lst ((Et.tgs (Wr rz) n T).map nD));unfold Et.tgs;rw[R_];rfl
    .have hh':=z_.mp hh;have hp:=Qcd.mpr hT;refine bN (aL (d:=TN (Wr rz h)) rfl (aL (d:=LD T a) rfl aO)) (SR ⟨T[0],RW.has h _ hh' (S.lt _ (QaD _)),QaD _⟩ ?_);rw[(R.row hh').length_eq];simp;omega
   refine(aZ (cH Z)).trans ?_;refine(aZ (cH (d:=QF (Et.fg (Wr rz) n T a)) (bN (aL (d:=LD T a) rfl (aL (d:=LN (Et.tgs (Wr rz) n T)) rfl aO)) (RQ (by intro z;have:=congrArg Qb0 z;rw[U]at this;simp at this;omega) (by omega) fun x hx=>⟨hin x hx,(Et.g4 RW S hT hx).1,ha x (hin x hx)⟩)))).trans ?_;refine(aZ (cH (d:=LD T (Et.dY (Wr rz) n T a)) (bN (aL (d:=LD T a) rfl (aL (d:=LN (Et.tgs (Wr rz) n T)) rfl (aL (d:=QF (Et.fg (Wr rz) n T a)) rfl aO))) (SN S.nd Y (by omega) (by omega) ha (fun x=>Et.gS x))))).trans ?_;refine(aZ (cH (d:=LD (Et.dJ (Wr rz) n T a) (Et.dY (Wr rz) n T a)) ?_)).trans ?_
   .show kB _ _=_;unfold kB;rw[bN (aL (d:=LD T (Et.dY (Wr rz) n T a)) rfl aO) (Ut S.nd (by omega))];rfl
   have em:LM (ms++[(Et.tgs (Wr rz) n T,Et.fg (Wr rz) n T a,T.filter fun x=>decide (x∉Et.dJ (Wr rz) n T a))])=.lst (ms.map mD++[mD (Et.tgs (Wr rz) n T,Et.fg (Wr rz) n T a,T.filter fun x=>decide (x∉Et.dJ (Wr rz) n T a))]):=by show D.lst (QfL mD _)=_;rw[P_];rfl
   rw[em];refine aZ (ja (d:=LM ms) (ds:=[mD (Et.tgs (Wr rz) n T,Et.fg (Wr rz) n T a,T.filter fun x=>decide (x∉Et.dJ (Wr rz) n T a))]) rfl rfl (aL (nI (aL (d:=LN (Et.tgs (Wr rz) n T)) rfl (aL (d:=QF (Et.fg (Wr rz) n T a)) rfl (aL (dc (aL (kW (l:=T) nD (fun x=>decide (x∉Et.dJ (Wr rz) n T a)) nD (A7 (d:=LD T (Et.dY (Wr rz) n T a)) rfl (A6 T _)) (by omega) fun x hx=>⟨[some (nD x),some (LD (Et.dJ (Wr rz) n T a) (Et.dY (Wr rz) n T a))],rfl,?_,fun _=>rfl⟩) aO) rfl) aO))) (by simp)) aO) (kU (by rw[l_];omega)));have:=Nd (Et.dJ (Wr rz) n T a) (Et.dY (Wr rz) n T a) x;have e2:(! decide (x∈Et.dJ (Wr rz) n T a))=decide (x∉Et.dJ (Wr rz) n T a):=by simp
   rw[e2]at this;exact cW (aX (a:=nD x) (b:=LD (Et.dJ (Wr rz) n T a) (Et.dY (Wr rz) n T a)) rfl rfl this)
def gI(rz:List (List Nat))(n:Nat):List (List Nat×Nat×List Nat):=Et.f8 (Wr rz) n 64 (e_ n) fun _=>DD
theorem Jp(d0:D):∀(j i:Nat)(x2:Option D),i+j<=60->∃y2,bM (bS 2) Kx ((QcY i j).map nD) [some d0,some (LD (e_ i) fun _=>DD),x2,none,none,none,none]=.nx [some d0,some (LD (e_ (i+j)) fun _=>DD),y2,none,none,none,none]
|0,i,x2,_=>⟨x2,gq⟩
|j+1,i,x2,h=>by
  obtain⟨y2,ih⟩:=Jp d0 j (i+1) (some (nD i)) (by omega);refine⟨y2,?_⟩;rw[show i+(j+1)=i+1+j by omega,<-ih,Qfb,o_];refine fH (r1:=[some d0,some (LD (e_ i) fun _=>DD),some (nD i),none,none,none,none]) rfl ?_;rw[Qcn];have e1:(.tup [.int 1,.int 1]:D)=QF DD:=by show _=FR (Qd (DD:Int));rw[ES];rfl
  exact aZ (lC (d:=LD (e_ i) fun _=>DD) (k:=nD i) (v:=QF DD) rfl (by rw[<-e1]) rfl (AY (f:=fun _=>QF DD) (by simp) (by simp;omega)))
theorem SY(R:Sq rz n):wV [WD rz]=.ok (LM (gI rz n)):=by have U:=R.n7;obtain⟨y2,h1⟩:=Jp (WD rz) n 0 none (by omega);rw[QbL,<-Qb3]at h1;obtain⟨d1,z2,z4,z5,z6,h2⟩:=JW R 64 (e_ n) (fun _=>DD) [] y2 none none none (Et.Ok.init R.rw) (fun _ _=>r_ _) (by simp;omega) (by simpa using U) (by simp;omega);rw[QaY]at h2;refine cU (B:=Cn) (n:=7) ?_;unfold Cn;refine(aZ (cH (d:=LD (e_ 0) fun _=>DD) rfl)).trans ?_;refine(aZ ((fL (jV (aL (bN (aL (d:=WD rz) rfl aO) R.things) aO) (jT (by omega)))).trans h1)).trans ?_;refine(aZ (cH (d:=LM []) (iz aO (by simp)))).trans ?_;refine(aZ h2).trans ?_;exact cG (cP (d:=LM (gI rz n)) rfl)
end Law
end
section
set_option exponentiation.threshold 3000
namespace Law
open PySem PyProof.Rows L2 DL Fq
abbrev SL(n:Nat)(s:Nat->Nat):D:=.lst ((e_ n).map fun x=>QF (s x))
theorem Wl{n x:Nat}{s:Nat->Nat}(h:x<n):bY (SL n s) (nD x)=some (QF (s x)):=by refine uI ?_;rw[u_,Qax h];rfl
theorem NB{n x v:Nat}{s:Nat->Nat}(h:x<n):fP (SL n s) (nD x) (QF v)=some (SL n fun y=>if y=x then v else s y):=by
 rw[Of (by simpa using h)];show some (D.lst _)=some (D.lst _);congr 2;refine QcH fun i=>?_;by_cases hi:i<n
 .by_cases e:x=i
  .subst e;rw[s_ (by simpa using h),u_,Qax h];simp
  .rw[g_ e,u_,u_,Qax hi];simp[Qby e]
 .rw[Qal (by simp;omega),Qal (by simp;omega)]
theorem HX{d0 d2:D}{n h:Nat}(hh:h<n):∀(ms:List (List Nat×Nat×List Nat))(s:Nat->Nat)(x4 x5 x6 x7:Option D),(∀p∈ms,p.1.length=n/\∀t∈p.1,t<n)->(∀x,s x+Et.lT ms<=DD) ->∃y4 y5 y6 y7,bM (lc (fJ (bS 4) (fJ (bS 5) (fJ (bS 6) kJ)))) KM (ms.map mD) [some d0,some (nD h),some d2,some (SL n s),x4,x5,x6,x7]=.nx [some d0,some (nD h),some d2,some (SL n fun x=>s x+Et.shr ms h x),y4,y5,y6,y7]
|[],s,x4,x5,x6,x7,_,_=>⟨x4,x5,x6,x7,gq⟩
|p::ms,s,x4,x5,x6,x7,hp,hs=>by
  obtain⟨h1,h2⟩:=hp p j_;have U:h<p.1.length:=by omega
  have ht:p.1.getD h 0<n:=by rw[y_,f_ U];exact h2 _ (QaD _)
  have hb:=hs (p.1.getD h 0);rw[Et.dI]at hb;obtain⟨y4,y5,y6,y7,ih⟩:=HX (d0:=d0) (d2:=d2) hh ms (fun y=>if y=p.1.getD h 0 then s (p.1.getD h 0)+p.2.1 else s y) (some (LN p.1)) (some (QF p.2.1)) (some (TN p.2.2)) (some (nD (p.1.getD h 0))) (fun q hq=>hp q (k_ _ hq)) (fun x=>by
   have:=hs x;rw[Et.dI]at this;show(if x=p.1.getD h 0 then _ else _)+_<=_;by_cases e:x=p.1.getD h 0
   .rw[if_pos e];omega
   .rw[if_neg e];omega)
  refine⟨y4,y5,y6,y7,?_⟩;have ef:(fun x=>s x+Et.shr (p::ms) h x)=fun x=>(if x=p.1.getD h 0 then s (p.1.getD h 0)+p.2.1 else s x)+Et.shr ms h x:=by
   funext x;rw[Et.fQ];by_cases e:x=p.1.getD h 0
   .rw[if_pos e,if_pos e.symm,e];omega
   .rw[if_neg e,if_neg (Qby e)];omega
  rw[ef,o_,<-ih];refine fH (r1:=[some d0,some (nD h),some d2,some (SL n s),some (LN p.1),some (QF p.2.1),some (TN p.2.2),x7]) rfl ?_;refine(aZ (cH (d:=nD (p.1.getD h 0)) (aX (a:=LN p.1) (b:=nD h) rfl rfl (uI ?_)))).trans ?_
  .rw[u_,f_ U,y_,f_ U];rfl
  exact aZ (lC (d:=SL n s) (k:=nD (p.1.getD h 0)) (v:=QF (s (p.1.getD h 0)+p.2.1)) rfl (bN (aL (aX (a:=SL n s) (b:=nD (p.1.getD h 0)) rfl rfl (Wl ht)) (aL (d:=QF p.2.1) rfl aO)) (rp (by omega) (by omega))) rfl (NB ht))
section
variable{rz:List (List Nat)}{n:Nat}
theorem Gv(R:Sq rz n):∀(k:Nat)(T:List Nat)(a:Nat->Nat),Et.Ok n T a->∀p∈Et.f8 (Wr rz) n k T a,p.1.length=n/\∀t∈p.1,t<n
|0,T,a,S,p,hp=>by cases hp
|k+1,T,a,S,p,hp=>by
  by_cases hT:T=[]
  .subst hT;cases hp
  .have e:Et.f8 (Wr rz) n (k+1) T a=(Et.tgs (Wr rz) n T,Et.fg (Wr rz) n T a,T.filter fun x=>decide (x∉Et.dJ (Wr rz) n T a))::Et.f8 (Wr rz) n k (Et.dJ (Wr rz) n T a) (Et.dY (Wr rz) n T a):=by show(if T=[]then[]else _)=_;rw[if_neg hT]
   rw[e]at hp;rcases t_.mp hp with rfl|hp
   .exact⟨Et.d8,fun t ht=>S.lt t (Et.dz R.rw S hT ht)⟩
   .exact Gv R k _ _ (S.next R.rw hT) p hp
theorem Hi(R:Sq rz n):∀(k:Nat)(T:List Nat)(a:Nat->Nat),Et.Ok n T a->(Et.f8 (Wr rz) n k T a).length<=T.length
|0,T,a,S=>by show 0<=_;omega
|k+1,T,a,S=>by
  by_cases hT:T=[]
  .subst hT;exact r_ _
  .have e:Et.f8 (Wr rz) n (k+1) T a=(Et.tgs (Wr rz) n T,Et.fg (Wr rz) n T a,T.filter fun x=>decide (x∉Et.dJ (Wr rz) n T a))::Et.f8 (Wr rz) n k (Et.dJ (Wr rz) n T a) (Et.dY (Wr rz) n T a):=by show(if T=[]then[]else _)=_;rw[if_neg hT]
   have:=Hi R k _ _ (S.next R.rw hT);have hlt:=Et.gX R.rw S hT;rw[e,K_];omega
theorem M8(R:Sq rz n):∀p∈gI rz n,p.1.length=n/\∀t∈p.1,t<n:=Gv R 64 _ _ (Et.Ok.init R.rw)
theorem GV(R:Sq rz n):Et.lT (gI rz n)=DD:=Et.l9 R.rw (by have:=R.n7;omega)
theorem Ow(R:Sq rz n):(gI rz n).length<=7:=by have:=Hi R 64 _ _ (Et.Ok.init R.rw);have:=R.n7;unfold gI;simp at *;omega
def tbN(rz:List (List Nat))(n h x:Nat):Nat:=Et.shr (gI rz n) h x
def sG(rz:List (List Nat))(n h:Nat):List (Int×Nat):=(e_ n).map fun x=>Qd ((tbN rz n h x:Nat):Int)
theorem VX(n:Nat):(p_ n [FR (0,1)]).flatten=(e_ n).map fun _=>QF 0:=by
 have e:QF 0=FR (0,1):=by show FR (Qd ((0:Nat):Int))=_;rw[show((0:Nat):Int)=0 from rfl,mi]
 rw[e]
 induction n with
|zero=>rfl
|succ n ih=>rw[List.replicate_succ',List.flatten_append,ih,Qcn,P_];rfl
theorem PV(ds:List D)(k:Int):lY (.lst ds) (.int k)=if-(2^62)<=k/\k<2^62/\ds.length*k.toNat<=sizeLine then some (.lst ((p_ k.toNat ds).flatten))else none:=rfl
theorem Ui(R:Sq rz n){h:Nat}(hh:h<n):xJ [WD rz,nD h,LM (gI rz n)]=.ok (TF (sG rz n h)):=by
 have U:=R.n7;obtain⟨y4,y5,y6,y7,e⟩:=HX (d0:=WD rz) (d2:=LM (gI rz n)) hh (gI rz n) (fun _=>0) none none none none (M8 R) (fun _=>by rw[GV R];omega);refine cU (B:=C3) (n:=8) ?_;unfold C3;refine(aZ (cH (d:=SL n fun _=>0) (aX (a:=.lst [FR (0,1)]) (b:=nD n) (iz (aL (d:=FR (0,1)) rfl aO) (by simp)) (bN (aL (d:=WD rz) rfl aO) R.things) ?_))).trans ?_
 .rw[PV,if_pos ⟨by omega,by omega,by rw[Qaa,QaR,QcJ];omega⟩,QaR,VX]
 refine(aZ ((fL (mW (d:=LM (gI rz n)) rfl rfl)).trans e)).trans ?_;refine cG (cP (dc (aL (d:=SL n fun x=>0+Et.shr (gI rz n) h x) rfl aO) ?_));rw[e_tupL];show some (D.tup _)=some (D.tup ((sG rz n h).map FR));unfold sG tbN;rw[R_];congr 2;refine Qam fun x _=>?_;show QF (0+Et.shr (gI rz n) h x)=_;rw[QbL];rfl
theorem GQ{d0:D}:∀(ms:List (List Nat×Nat×List Nat))(lg:List D)(s:Nat)(x3 x4 x5:Option D),s+Et.lT ms<=DD->lg.length+ms.length<=100 ->∃U s' y3 y4 y5,bM (lc (fJ (bS 3) (fJ (bS 4) (fJ (bS 5) kJ)))) J4 (ms.map mD) [some d0,some (.lst lg),some (QF s),x3,x4,x5]=.nx [some d0,some (.lst U),some (QF s'),y3,y4,y5]
|[],lg,s,x3,x4,x5,_,_=>⟨lg,s,x3,x4,x5,gq⟩
|p::ms,lg,s,x3,x4,x5,hs,hl=>by rw[Et.dI]at hs;rw[K_]at hl;obtain⟨U,s',y3,y4,y5,ih⟩:=GQ (d0:=d0) ms (lg++[.tup [QF (s+p.2.1),TN p.2.2]]) (s+p.2.1) (some (LN p.1)) (some (QF p.2.1)) (some (TN p.2.2)) (by omega) (by simp;omega);refine⟨U,s',y3,y4,y5,?_⟩;rw[o_,<-ih];refine fH (r1:=[some d0,some (.lst lg),some (QF s),some (LN p.1),some (QF p.2.1),some (TN p.2.2)]) rfl ?_;refine(aZ (cH (d:=QF (s+p.2.1)) (bN (aL (d:=QF s) rfl (aL (d:=QF p.2.1) rfl aO)) (rp (by omega) (by omega))))).trans ?_;exact aZ (ja (d:=.lst lg) (ds:=[.tup [QF (s+p.2.1),TN p.2.2]]) rfl rfl (aL (nI (aL (d:=QF (s+p.2.1)) rfl (aL (d:=TN p.2.2) rfl aO)) (by simp)) aO) (kU (by omega)))
theorem P4(R:Sq rz n):∃d,vS [LM (gI rz n)]=.ok d:=by
 obtain⟨U,s',y3,y4,y5,e⟩:=GQ (d0:=LM (gI rz n)) (gI rz n) [] 0 none none none (by rw[GV R];omega) (by have:=Ow R;simp;omega);have e0:QF 0=.tup [.int 0,.int 1]:=by show FR (Qd ((0:Nat):Int))=_;rw[show((0:Nat):Int)=0 from rfl,mi];rfl
 refine⟨.lst U,cU (B:=BQ) (n:=6) ?_⟩;unfold BQ;refine(aZ (cH (d:=.lst []) (iz aO (by simp)))).trans ?_;refine(aZ (cH (d:=QF 0) (by rw[e0]))).trans ?_;refine(aZ ((fL (mW (d:=LM (gI rz n)) rfl rfl)).trans e)).trans ?_;exact cG (cP (d:=.lst U) rfl)
abbrev ip(l:List (List (Int×Nat))):D:=.tup (l.map TF)
def tbl(rz:List (List Nat))(n:Nat):List (List (Int×Nat)):=(e_ n).map (sG rz n)
theorem Uj(R:Sq rz n):nZ [WD rz]=.ok (.bl true):=by refine cU (B:=se) (n:=1) ?_;unfold se;exact cG (cP (aX (a:=nD n) (b:=nD n) (bN (aL (d:=WD rz) rfl aO) R.things) (dc (aL (d:=WD rz) rfl aO) R.len) (BV n)))
theorem Ug(R:Sq rz n):zH [WD rz]=.ok .non:=by
 show aT false (zG (bL 1 [WD rz]))=_;have:zG (bL 1 [WD rz])=.nx [some (WD rz)]:=by unfold zG;exact aZ ((cR (iL (b:=true) (eZ (bN (aL (d:=WD rz) rfl aO) (Uj R)) rfl))).trans (e_skip _))
 rw[this];rfl
theorem Hh{m:List Md}{f:FE}{r:aQ}{d:D}(h:f r=.ok d):jl m f r=.nx r:=by unfold jl;rw[h];rfl
theorem SU(R:Sq rz n):∃d,pF [WD rz]=.ok (.tup [ip (tbl rz n),d]):=by
 have U:=R.n7;obtain⟨d,hd⟩:=P4 R;refine⟨d,cU (B:=Bf) (n:=3) ?_⟩;unfold Bf;refine(aZ (Hh (bN (aL (d:=WD rz) rfl aO) (Ug R)))).trans ?_;refine(aZ (cH (bN (aL (d:=WD rz) rfl aO) (SY R)))).trans ?_;refine(aZ (cH (d:=ip (tbl rz n)) (dc (aL (lJ (l:=e_ n) nD (fun h=>TF (sG rz n h)) (jV (aL (dc (aL (d:=WD rz) rfl aO) R.len) aO) (jT (by omega))) (by simp;omega) fun h hh=>⟨[some (nD h),some (WD rz),some (LM (gI rz n))],rfl,bN (aL (d:=WD rz) rfl (aL (d:=nD h) rfl (aL (d:=LM (gI rz n)) rfl aO))) (Ui R (z_.mp hh))⟩) aO) ?_))).trans ?_
 .rw[e_tupL];show some (D.tup _)=some (D.tup ((tbl rz n).map TF));unfold tbl;rw[R_];rfl
 exact cG (cP (nI (aL (d:=ip (tbl rz n)) rfl (aL (bN (aL (d:=LM (gI rz n)) rfl aO) hd) aO)) (by simp)))
end
end Law
end
namespace Law
open PySem PyProof.Rows L2 DL
structure Rws(rz:List (List Nat))(n m:Nat):Prop where
 n1:1<=n
 n7:n<=7
 nm:n<=m
 m8:m<=8
 rl:rz.length=n
 rp:∀row∈rz,row.Perm (e_ m)
section
variable{rz:List (List Nat)}{n m:Nat}
theorem Rws.row(R:Rws rz n m){h:Nat}(hh:h<n):(Wr rz h).Perm (e_ m):=by unfold Wr;rw[f_ (by rw[R.rl];exact hh)];exact R.rp _ (QaD _)
theorem Rws.has(R:Rws rz n m){h x:Nat}(hh:h<n)(hx:x<m):x∈Wr rz h:=(R.row hh).mem_iff.mpr (z_.mpr hx)
theorem Rws.one(R:Rws rz n m){h:Nat}{T:List Nat}(hh:h<n)(hT:0<T.length)(hm:∀x∈T,x<m):∃x∈Wr rz h,x∈T:=⟨T[0],R.has hh (hm _ (QaD _)),QaD _⟩
theorem Rws.best(R:Rws rz n m){h:Nat}{T:List Nat}(hh:h<n)(hT:0<T.length)(hm:∀x∈T,x<m):iF [TN (Wr rz h),LN T]=.ok (nD (Rg.best (Wr rz h) T)):=Ir (R.one hh hT hm) (by rw[(R.row hh).length_eq];have:=R.m8;simp;omega)
theorem Rws.inT(R:Rws rz n m){h:Nat}{T:List Nat}(hh:h<n)(hT:0<T.length)(hm:∀x∈T,x<m):Rg.best (Wr rz h) T∈T:=Rg.A5 (R.one hh hT hm)
theorem Rws.at0(R:Rws rz n m):∃r rest,rz=r::rest/\r.length=m:=by cases e:rz with
|nil=>have:=R.rl;have:=R.n1;rw[e]at *;simp at *;omega
|cons r rest=>exact⟨r,rest,rfl,by rw[(R.rp r (by rw[e];exact j_)).length_eq];simp⟩
theorem Rws.things(R:Rws rz n m):eL [WD rz]=.ok (nD m):=by obtain⟨r,rest,e,hl⟩:=R.at0;rw[e,Cy,hl]
theorem Rws.ix0(R:Rws rz n m):∃r0,bY (WD rz) (.int 0)=some (TN r0)/\lenD [TN r0]=some (nD m):=by obtain⟨r,rest,e,hl⟩:=R.at0;exact⟨r,by rw[e];exact ixA_T0 _ _,by rw[nV,hl]⟩
theorem Rws.len(R:Rws rz n m):lenD [WD rz]=some (nD n):=by rw[nV,R.rl]
theorem GF(R:Rws rz n m)(d:Nat->Nat)(od:Option D):∀(o L T:List Nat)(kvs:List (Nat×Nat))(y:Option D),Rg.oW (Wr rz) d o T->GI d kvs L->(∀h∈L++o,h<n)->o.length<=T.length->(∀x∈T,x<m) ->∃U T' y',GI d U (L++o)/\bM (bS 4) Kv (o.map nD) [some (WD rz),od,some (LN T),some (KD kvs),y]=.nx [some (WD rz),od,some (LN T'),some (KD U),y']
|[],L,T,kvs,y,_,g,_,_,_=>⟨kvs,T,y,by rw[W_];exact g,gq⟩
|h::o,L,T,kvs,y,s,g,hL,hl,hT=>by
  have hh:h<n:=hL h (by simp);have hp:0<T.length:=by simp at hl;omega
  have hb:=R.best hh hp hT;have hin:=R.inT hh hp hT;rw[s.1]at hb hin;obtain⟨U,T',y',g',ih⟩:=GF R d od o (L++[h]) (T.erase (d h)) (putN kvs h (d h)) (some (nD h)) s.2 (g.put h) (by simpa using hL) (by rw[Qdz hin];simp at hl;omega) (fun x hx=>hT x (List.mem_of_mem_erase hx));refine⟨U,T',y',by simpa using g',?_⟩;rw[<-ih];have hk:=g.len (line:=e_ n) fun x hx=>z_.mpr (hL x (QaN _ hx));have Y:=R.n7;refine fH (r1:=[some (WD rz),od,some (LN T),some (KD kvs),some (nD h)]) rfl ?_;refine(aZ (lC (d:=KD kvs) (k:=nD h) (v:=nD (d h)) rfl (bN (aL (aX (a:=WD rz) (b:=nD h) rfl rfl (pb (FM (by rw[R.rl];exact hh)))) (aL (d:=LN T) rfl aO)) hb) rfl (uX (by simp at hk;omega)))).trans ?_;exact aZ (ja (d:=LN T) (ds:=[nD (d h)]) rfl rfl (aL (aX (a:=KD (putN kvs h (d h))) (b:=nD h) rfl rfl (uH (wS (g.put h).val (((g.put h).key h).mpr (by simp))))) aO) (NX hin))
theorem Jc(R:Rws rz n m){d:Nat->Nat}{o:List Nat}{od:D}(ho:k4 [WD rz,od]=.ok (LN o))(hp:o.Perm (e_ n))(s:Rg.oW (Wr rz) d o (e_ m)):h9 [WD rz,od]=.ok (TN ((e_ n).map d)):=by
 have Z:=R.n7;have BT:=R.m8;have Y:=R.nm;have hlt:∀h∈o,h<n:=fun h hh=>z_.mp (hp.mem_iff.mp hh);have hlen:o.length=n:=by rw[hp.length_eq];simp
 obtain⟨U,T',y',g,hl⟩:=GF R d (some od) o [] (e_ m) [] none s (GI.nil d) (by simpa using hlt) (by simp;omega) (fun x hx=>z_.mp hx);refine cU (B:=rO) (n:=5) ?_;unfold rO;refine(aZ (cH (d:=LN (e_ m)) (dc (aL (bN (aL (d:=WD rz) rfl aO) R.things) aO) (uY (by omega))))).trans ?_;refine(aZ (r':=[some (WD rz),some od,some (LN (e_ m)),some (KD []),none]) rfl).trans ?_;refine(aZ ((fL (ds:=o.map nD) (mW (bN (aL (d:=WD rz) rfl (aL (d:=od) rfl aO)) ho) rfl)).trans hl)).trans ?_;exact cG (cP (bN (aL (d:=KD U) rfl aO) (KR g (fun x=>by rw[QaY,hp.mem_iff];exact z_) (by omega))))
theorem UK(R:Rws rz n m){d:Nat->Nat}{o:List Nat}(hp:o.Perm (e_ n))(s:Rg.oW (Wr rz) d o (e_ m)):h9 [WD rz,LN o]=.ok (TN ((e_ n).map d)):=by have U:=R.n7;exact Jc R (Jx (hp.nodup_iff.mpr Qav) (by rw[R.rl];exact fun h hh=>z_.mp (hp.mem_iff.mp hh)) (by rw[R.rl,hp.length_eq];simp) (by rw[R.rl];omega)) hp s
end
theorem Oi{l:List Nat}{i:Nat}(h:i<=l.length):sN (LN l) none (some (i:Int))=some (LN (l.take i)):=by show some (D.lst (gC (l.map nD) none (some (i:Int))))=_;unfold gC;rw[HT.jf,HT.ie,l_,Qfq h,List.drop_zero,Nat.sub_zero];show some (D.lst _)=some (D.lst ((l.take i).map nD));rw[Qf0]
theorem Gr{a b:List Nat}(h:a.length+b.length<=2000):addE (LN a) (LN b)=some (LN (a++b)):=by show(if (a.map nD).length+(b.map nD).length<=sizeLine then some (D.lst (a.map nD++b.map nD))else none)=some (D.lst ((a++b).map nD));rw[if_pos (by rw[l_,l_,Qaa];omega),P_]
def fc:Nat->Nat
|0=>1
|i+1=>fc i*(i+1)
theorem E3{i:Nat}(h:i<=5):fc i<=120:=by match i,h with
|0,_=>decide
|1,_=>decide
|2,_=>decide
|3,_=>decide
|4,_=>decide
|5,_=>decide
theorem Gw:∀i,0<fc i
|0=>by decide
|i+1=>Qb1 (Gw i) (by omega)
theorem TM{i:Nat}{row:List Nat}(hp:row.Perm (e_ i))(U:Nat):(row.take U++[i]++row.drop U).Perm (e_ (i+1)):=by
 have h1:(row.take U++[i]++row.drop U).Perm (i::row):=by rw[Qab,Qbi];refine Qfa.trans ?_;rw[Qd7]
 refine h1.trans ?_;rw[Qcn];exact(List.Perm.cons i hp).trans (Qdo i _).symm
abbrev LL(l:List (List Nat)):D:=.lst (l.map LN)
def ins(i:Nat)(row:List Nat)(a:Nat):List Nat:=row.take a++[i]++row.drop a
def ext(i:Nat)(row:List Nat):List (List Nat):=(e_ (i+1)).map (ins i row)
def iV:Nat->List (List Nat)
|0=>[[]]
|i+1=>(iV i).flatMap (ext i)
theorem GY(i:Nat)(row:List Nat):(ext i row).length=i+1:=by unfold ext;simp
theorem A8:∀i,(iV i).length=fc i
|0=>rfl
|i+1=>by
  have:∀l:List (List Nat),(l.flatMap (ext i)).length=l.length*(i+1):=fun l=>by induction l with
  |nil=>simp
  |cons r l ih=>rw[Qe1,Y_,GY,ih,K_,QeQ];omega
  show((iV i).flatMap (ext i)).length=fc i*(i+1);rw[this,A8 i]
theorem BG:∀(i:Nat)(r:List Nat),r∈iV i->r.Perm (e_ i)
|0,r,h=>by rw[Qbf.mp h];exact .refl _
|i+1,r,h=>by obtain⟨row,h1,h2⟩:=List.mem_flatMap.mp h;obtain⟨a,_,rfl⟩:=A_.mp h2;exact TM (BG i row h1) a
theorem tF(kd U:Option D){i:Nat}{row:List Nat}(hlen:row.length=i)(hi:i<=10):∀(l:List Nat)(lg:List (List Nat))(y:Option D),(∀a∈l,a<=i)->lg.length+l.length<=200 ->∃y':Option D,bM (bS 5) KW (l.map nD) [kd,U,some (nD i),some (LL lg),some (LN row),y]=.nx [kd,U,some (nD i),some (LL (lg++l.map (ins i row))),some (LN row),y']
|[],lg,y,_,_=>⟨y,by rw[Qb6,Qb6,W_];exact gq⟩
|a::l,lg,y,ha,hl=>by obtain⟨y',h3⟩:=tF kd U hlen hi l (lg++[ins i row a]) (some (nD a)) (fun x hx=>ha x (k_ _ hx)) (by simp at hl ⊢;omega);refine⟨y',QdI ?_ (h3.trans (by rw[Qab];rfl))⟩;have Y:=ha a j_;refine fH (r1:=[kd,U,some (nD i),some (LL lg),some (LN row),some (nD a)]) rfl ?_;refine(aZ (ja (d:=LL lg) (ds:=[LN (row.take a++[i]++row.drop a)]) (d':=LL (lg++[row.take a++[i]++row.drop a])) rfl rfl (aL (aX (a:=LN (row.take a++[i])) (b:=LN (row.drop a)) (aX (a:=LN (row.take a)) (b:=LN [i]) (Av (d:=LN row) rfl rfl (Bc (i:=(a:Int)) rfl) (Oi (by omega))) (iz (aL (d:=nD i) rfl aO) (by simp)) (Gr (by simp;omega))) (Av (d:=LN row) rfl (Bc (i:=(a:Int)) rfl) rfl (HW (by omega))) (Gr (by simp;omega))) aO) ?_)).trans rfl;rw[kU (by simp at hl ⊢;omega)];show some (D.lst _)=some (D.lst _);rw[P_];rfl
theorem tD(kd U:Option D){i:Nat}(hi:i<=10):∀(l:List (List Nat))(lg:List (List Nat))(x y:Option D),(∀r∈l,r.length=i)->lg.length+l.length*(i+1)<=200 ->∃x' y':Option D,bM (bS 4) KY (l.map LN) [kd,U,some (nD i),some (LL lg),x,y]=.nx [kd,U,some (nD i),some (LL (lg++l.flatMap (ext i))),x',y']
|[],lg,x,y,_,_=>⟨x,y,by rw[Qb6,List.flatMap_nil,W_];exact gq⟩
|row::l,lg,x,y,hp,hl=>by
  have hlen:=hp row j_;have hm:(row::l).length*(i+1)=l.length*(i+1)+(i+1):=by rw[K_,QeQ]
  obtain⟨y1,h3⟩:=tF kd U hlen hi (e_ (i+1)) lg y (fun a ha=>by have:=z_.mp ha;omega) (by simp;omega);obtain⟨x',y',i3⟩:=tD kd U hi l (lg++ext i row) (some (LN row)) y1 (fun r hr=>hp r (k_ _ hr)) (by rw[Y_,GY];omega);refine⟨x',y',QdI ?_ (i3.trans (by rw[Qe1,Qab]))⟩;exact fH (r1:=[kd,U,some (nD i),some (LL lg),some (LN row),y]) rfl (aZ ((fL (ds:=(e_ (i+1)).map nD) (jV (aL (aX (a:=nD i) (b:=nD 1) rfl rfl (mM i 1)) aO) (jT (by omega)))).trans h3))
theorem tz(kd:Option D):∀(j i:Nat)(x2 x3 x4 x5:Option D),i+j<=5 ->∃y2 y3 y4 y5:Option D,bM (bS 2) KZ ((QcY i j).map nD) [kd,some (LL (iV i)),x2,x3,x4,x5]=.nx [kd,some (LL (iV (i+j))),y2,y3,y4,y5]
|0,i,x2,x3,x4,x5,_=>⟨x2,x3,x4,x5,gq⟩
|j+1,i,x2,x3,x4,x5,hj=>by have hb:fc (i+1)<=120:=E3 (by omega);have U:fc (i+1)=fc i*(i+1):=rfl;obtain⟨z4,z5,h3⟩:=tD kd (some (LL (iV i))) (i:=i) (by omega) (iV i) [] x4 x5 (fun r hr=>by rw[(BG i r hr).length_eq,QaV]) (by rw[A8,<-U];simp;omega);rw[QaY]at h3;obtain⟨y2,y3,y4,y5,i3⟩:=tz kd j (i+1) (some (nD i)) (some (LL (iV (i+1)))) z4 z5 (by omega);refine⟨y2,y3,y4,y5,QdI ?_ (i3.trans (by rw[show i+1+j=i+(j+1)by omega]))⟩;refine fH (r1:=[kd,some (LL (iV i)),some (nD i),x3,x4,x5]) rfl ?_;refine(aZ (cH (d:=LL []) (iz aO (by simp)))).trans ?_;refine(aZ ((fL (ds:=(iV i).map LN) rfl).trans h3)).trans ?_;exact aZ (cH (d:=LL (iV (i+1))) rfl)
theorem P2{k:Nat}(hk:k<=5):rX [nD k]=.ok (LL (iV k)):=by obtain⟨y2,y3,y4,y5,h3⟩:=tz (some (nD k)) k 0 none none none none (by omega);rw[QbL,<-Qb3]at h3;refine cU (B:=Dm) (n:=6) ?_;unfold Dm;refine(aZ (cH (d:=LL [[]]) (iz (aL (iz aO (by simp)) aO) (by simp)))).trans ?_;refine(aZ ((fL (ds:=(e_ k).map nD) (jV (aL (d:=nD k) rfl aO) (jT (by omega)))).trans h3)).trans ?_;exact cG (cP (d:=LL (iV k)) rfl)
end Law
section
set_option exponentiation.threshold 3000
namespace Law
open PySem PyProof.Rows L2 DL Fq
abbrev i4(l:List (List (Int×Nat))):D:=.lst (l.map TF)
def col(dls:List (List Nat))(i:Nat):List Nat:=dls.map fun dl=>dl.getD i 0
def shr(dls:List (List Nat))(m h:Nat):List (Int×Nat):=(e_ m).map fun t=>low (((col dls h).count t:Nat):Int) dls.length
theorem HV{dls:List (List Nat)}{n m:Nat}(hN:0<dls.length)(U:dls.length<=120)(hd:∀dl∈dls,dl.length=n)(hm:m<=60):∀(j i:Nat)(tb:List (List (Int×Nat)))(x y:Option D),i+j<=n->n<=60->tb.length=i ->∃x' y',bM (bS 3) KL ((QcY i j).map nD) [some (.lst (dls.map TN)),some (nD m),some (i4 tb),x,y]=.nx [some (.lst (dls.map TN)),some (nD m),some (i4 (tb++(QcY i j).map (shr dls m))),x',y']
|0,i,tb,x,y,_,_,_=>⟨x,y,by rw[show(QcY i 0).map (shr dls m)=[]from rfl,W_];exact gq⟩
|j+1,i,tb,x,y,hij,hn,hl=>by
  obtain⟨x',y',ih⟩:=HV hN U hd hm j (i+1) (tb++[shr dls m i]) (some (nD i)) (some (LN (col dls i))) (by omega) hn (by simp[hl]);refine⟨x',y',?_⟩;rw[Qab,Qbi]at ih;rw[Qfb,o_,o_,<-ih];refine fH (r1:=[some (.lst (dls.map TN)),some (nD m),some (i4 tb),some (nD i),y]) rfl ?_;refine(aZ (cH (d:=LN (col dls i)) ?_)).trans ?_
  .have:=lJ (nl:=1) (cap:=[3]) (fi:=bP dy (gv 0)) (ft:=bS 0) (fe:=f2 (gv 0) (gv 1) bY) (r:=[some (.lst (dls.map TN)),some (nD m),some (i4 tb),some (nD i),y]) (l:=dls) TN (fun dl=>nD (dl.getD i 0)) rfl (by omega) fun dl Y=>⟨[some (TN dl),some (nD i)],rfl,aX (a:=TN dl) (b:=nD i) rfl rfl (pb ?_)⟩
   .rw[this];show Res.ok (D.lst _)=Res.ok (D.lst _);unfold col;rw[R_];rfl
   .have hi:i<dl.length:=by rw[hd dl Y];omega
    rw[u_,f_ hi,y_,f_ hi];rfl
  have ef:i4 (tb++[shr dls m i])=D.lst (tb.map TF++[TF (shr dls m i)]):=by show D.lst ((tb++[shr dls m i]).map TF)=_;rw[P_];rfl
  rw[ef];refine aZ (ja (d:=i4 tb) (ds:=[TF (shr dls m i)]) rfl rfl (aL (dc (aL (lJ (l:=e_ m) nD (fun t=>FR (low (((col dls i).count t:Nat):Int) dls.length)) (jV (aL (d:=nD m) rfl aO) (jT (by omega))) (by simp;omega) fun t ht=>⟨[some (nD t),some (.lst (dls.map TN)),some (LN (col dls i))],rfl,?_⟩) aO) ?_) aO) (kU (by rw[l_];omega)))
  .exact bN (aL (Am (d:=LN (col dls i)) rfl rfl (aL (d:=nD t) rfl aO) (Bp (col dls i) t)) (aL (dc (aL (d:=.lst (dls.map TN)) rfl aO) (m4 _ _)) aO)) (pZ (t:=(((col dls i).count t:Nat):Int)) (k:=7) hN (by omega) (by omega))
  .rw[e_tupL];show some (D.tup _)=some (D.tup ((shr dls m i).map FR));unfold shr;rw[R_];rfl
theorem KA{dls:List (List Nat)}{n m:Nat}(hN:0<dls.length)(U:dls.length<=120)(hd:∀dl∈dls,dl.length=n)(hm:m<=60)(hn:n<=60):jv [.lst (dls.map TN),nD m]=.ok (ip ((e_ n).map (shr dls m))):=by obtain⟨x',y',h⟩:=HV hN U hd hm n 0 [] none none (by omega) hn rfl;rw[<-Qb3,QaY]at h;refine cU (B:=C2) (n:=5) ?_;unfold C2;refine(aZ (cH (d:=i4 []) (iz aO (by simp)))).trans ?_;cases hx:dls with
|nil=>rw[hx]at hN;simp at hN
|cons d0 rest=>have h0:d0.length=n:=hd d0 (by rw[hx];exact j_);rw[<-hx];refine(aZ ((fL (ds:=(e_ n).map nD) (jV (aL (dc (aL (aX (a:=.lst (dls.map TN)) (b:=.int 0) (d:=TN d0) rfl rfl (by rw[hx];exact ixA_L0 _ _)) aO) (by rw[nV,h0])) aO) (jT (by omega)))).trans h)).trans ?_;exact cG (cP (dc (aL (d:=i4 ((e_ n).map (shr dls m))) rfl aO) rfl))
section
variable{rz:List (List Nat)}{n m:Nat}
def mz(rz:List (List Nat))(n m:Nat)(o:List Nat):List Nat:=(e_ n).map (Rg.jw (Wr rz) o (e_ m))
theorem FO(R:Rws rz n m){o:List Nat}(hp:o.Perm (e_ n)):h9 [WD rz,LN o]=.ok (TN (mz rz n m o)):=UK R hp (Rg.Ai o (e_ m) (hp.nodup_iff.mpr Qav))
theorem Uu(R:Rws rz n m)(h5:n<=5):zV [WD rz]=.ok .non:=by
 show aT false (zU (bL 1 [WD rz]))=_;have:zU (bL 1 [WD rz])=.nx [some (WD rz)]:=by unfold zU;have hg:=mE n 5;rw[decide_eq_false (by omega)]at hg;exact aZ ((cR (cW (aX (b:=nD 5) (dc (aL (d:=WD rz) rfl aO) R.len) rfl hg))).trans (e_skip _))
 rw[this];rfl
def tm(rs:List (List Nat))(rz:List (List Nat))(n m:Nat):List (List (Int×Nat)):=(e_ n).map (shr (rs.map (mz rz n m)) m)
theorem P5(R:Rws rz n m)(h5:n<=5){rs:List (List Nat)}(h1:∀r∈rs,r.Perm (e_ n))(h2:rs.length=fc n)(h3:rX [nD n]=.ok (LL rs)):ph [WD rz]=.ok (ip (tm rs rz n m)):=by
 have BT:=E3 h5;have Y:=Gw n;have Z:=R.m8;refine cU (B:=Ah) (n:=2) ?_;unfold Ah;refine(aZ (Hh (bN (aL (d:=WD rz) rfl aO) (Uu R h5)))).trans ?_;refine(aZ (cH (lJ (l:=rs) LN (fun o=>TN (mz rz n m o)) (mW (bN (aL (dc (aL (d:=WD rz) rfl aO) R.len) aO) h3) rfl) (by omega) fun o ho=>⟨[some (LN o),some (WD rz)],rfl,bN (aL (d:=WD rz) rfl (aL (d:=LN o) rfl aO)) (FO R (h1 o ho))⟩))).trans ?_;have e:rs.map (fun o=>TN (mz rz n m o))=(rs.map (mz rz n m)).map TN:=by rw[R_];rfl
 rw[e];refine cG (cP (bN (aL (d:=.lst ((rs.map (mz rz n m)).map TN)) rfl (aL (bN (aL (d:=WD rz) rfl aO) R.things) aO)) (KA (by rw[l_];omega) (by rw[l_];omega) (fun dl U=>?_) (by omega) (by omega))));obtain⟨o,_,rfl⟩:=A_.mp U;unfold mz;simp
end
end Law
end
namespace Law
open PySem PyProof.Rows L2 DL Fq
def Cp:Nat->D->Prop
|_,.non=>True
|_,.int _=>True
|_,.str _=>True
|k+1,.tup ds=>ds.length<=1000/\∀d∈ds,Cp k d
|k+1,.lst ds=>ds.length<=1000/\∀d∈ds,Cp k d
|_,_=>False
theorem Gq(k:Nat)(ds:List D):jY (k+1) ds=aT false (nO (jY k) (bL 1 ds)):=rfl
theorem Cw:∀(k:Nat)(d:D),Cp k d->jY (k+1) [d]=.ok d:=by
 intro k
 induction k with
|zero=>intro d h;cases d with
 |non=>rfl
 |int i=>rfl
 |str s=>rfl
 |_=>exact h.elim
|succ k ih=>intro d h;cases d with
 |non=>rfl
 |int i=>rfl
 |str s=>rfl
 |tup ds=>
   obtain⟨h1,h2⟩:ds.length<=1000/\∀d∈ds,Cp k d:=h;rw[Gq];refine cU (B:=nO (jY (k+1))) (n:=1) ?_;unfold nO;refine(aZ ((cR (eZ (gE (a:=.tup ds) (d:=.bl false) rfl rfl) rfl)).trans (e_skip _))).trans ?_;refine cG ((eU (eZ (gE (a:=.tup ds) (d:=.bl true) rfl rfl) rfl)).trans (cG (cP (dc (aL (d:=.lst ds) ?_ aO) (e_tupL _)))));have:=lJ (nl:=1) (cap:=[]) (fi:=bP dy (gv 0)) (ft:=bS 0) (fe:=bI (aI (gv 0) aH) [] (jY (k+1))) (r:=bL 1 [.tup ds]) (l:=ds) (fun d=>d) (fun d=>d) (by rw[QdX];rfl) h1 fun d hd=>⟨[some d],rfl,bN (aL rfl aO) (ih d (h2 d hd))⟩
   rw[QdX]at this;exact this
 |lst ds=>
   obtain⟨h1,h2⟩:ds.length<=1000/\∀d∈ds,Cp k d:=h;rw[Gq];refine cU (B:=nO (jY (k+1))) (n:=1) ?_;unfold nO;refine cG ((eU (eZ (gE (a:=.lst ds) (d:=.bl true) rfl rfl) rfl)).trans (cG (cP ?_)));have:=lJ (nl:=1) (cap:=[]) (fi:=bP dy (gv 0)) (ft:=bS 0) (fe:=bI (aI (gv 0) aH) [] (jY (k+1))) (r:=bL 1 [.lst ds]) (l:=ds) (fun d=>d) (fun d=>d) (by rw[QdX];rfl) h1 fun d hd=>⟨[some d],rfl,bN (aL rfl aO) (ih d (h2 d hd))⟩
   rw[QdX]at this;exact this
 |_=>exact h.elim
theorem Mt(k:Nat)(i:Int):Cp k (.int i):=by cases k <;> trivial
theorem EI(k:Nat)(o:Option Nat):Cp k (oD o):=by cases o <;> cases k <;> trivial
theorem Al(k:Nat){l:List Nat}(h:l.length<=1000):Cp (k+1) (LN l):=⟨by simpa using h,fun d hd=>by obtain⟨x,_,rfl⟩:=A_.mp hd;exact Mt k x⟩
theorem WA(k:Nat){oz:List (Option Nat)}(h:oz.length<=1000):Cp (k+1) (OD oz):=⟨by simpa using h,fun d hd=>by obtain⟨x,_,rfl⟩:=A_.mp hd;exact EI k x⟩
theorem BI{a b:D}(h1:Cp 5 a)(h2:Cp 5 b):k9 [a,b]=.ok [("owns",a),("order",b)]:=by unfold k9 xS jF;rw[bN (aL rfl aO) (Cw 5 a h1)];have e:=bN (fl:=aI (gv 2) aH) (dds:=[]) (F:=lL) (r:=none::(QfL some [a,b]++p_ (Ds.length-([a,b].length+1)) none)) (aL rfl aO) (Cw 5 b h2);simp only[e];rfl
theorem BH{a:D}(h1:Cp 5 a):k8 [a]=.ok [("order",a)]:=by unfold k8 xR jF;rw[bN (aL rfl aO) (Cw 5 a h1)];rfl
theorem mX{nm:Str}{fl:aQ->Res (List D)}{F:nu}{r:aQ}{ds dds:List D}{fd:List (Str×D)}(h1:fl r=.ok ds)(h2:F (ds++dds)=.ok fd):jm nm fl dds F r=.ok (iD nm fd):=by unfold jm;rw[h1,bind_ok,h2]
abbrev RO(oz:List (Option Nat))(od:D):D:=iD "ByRings" [("owns",OD oz),("order",od)]
abbrev OO(od:D):D:=iD "ByOrder" [("order",od)]
theorem uU{a b:D}:dA jU "owns" (iD "ByRings" [("owns",a),("order",b)])=some a:=rfl
theorem qZ{a b:D}:dA fK "order" (iD "ByRings" [("owns",a),("order",b)])=some b:=rfl
theorem qY{b:D}:dA fK "order" (iD "ByOrder" [("order",b)])=some b:=rfl
theorem kY{hit:Str->Bool}{mt nm:Str}{fo:FE}{fl:aQ->Res (List D)}{F:List D->Res D}{r:aQ}{fs:List (Str×D)}{ds:List D}{d:D}(h1:fo r=.ok (iD nm fs))(h2:fl r=.ok ds)(h3:hit nm=true)(h4:fs.lookup mt=none)(h5:F (iD nm fs::ds)=.ok d):iK hit mt fo fl F r=.ok d:=by unfold iK;rw[h1,bind_ok];show(if hit nm=true/\fs.lookup mt=none then _ else _)=_;rw[if_pos ⟨h3,h4⟩,h2,bind_ok,h5];rfl
theorem low_1(x:Int):low x 1=(x,1):=by unfold low;simp
abbrev iG(m t:Nat):List (Int×Nat):=(e_ m).map fun j=>((if j=t then 1 else 0:Int),1)
theorem Mw{dl:List Nat}{m h:Nat}:shr [dl] m h=iG m (dl.getD h 0):=by
 unfold shr iG col;refine Qam fun t _=>?_;show low (((List.count t [dl.getD h 0]:Nat)):Int) 1=_;rw[low_1,List.count_singleton];by_cases z:t=dl.getD h 0
 .rw[if_pos z,if_pos (by rw[z];exact beq_self_eq_true _)];rfl
 .rw[if_neg z,if_neg (fun w=>z (QaQ w).symm)];rfl
theorem ME{dl:List Nat}{n m:Nat}(h:dl.length=n):(e_ n).map (shr [dl] m)=dl.map (iG m):=by
 refine QcH fun i=>?_;rw[u_,u_];by_cases hi:i<n
 .rw[Qax hi,f_ (by omega)];show some (shr [dl] m i)=some _;rw[Mw,y_,f_ (by omega)];rfl
 .rw[Qal (by simp;omega),Qal (by omega)];rfl
structure Rl(rz:List (List Nat))(m:Nat)(nm:Str)(fs:List (Str×D))(dl:List Nat):Prop where
 hs:jX nm=true
 hh:k6 nm=true
 l1:fs.lookup ("sure" : Str)=none
 l2:fs.lookup ("shares" : Str)=none
 tn:nH nm=some true
 su:iA [iD nm fs,WD rz]=.ok (TN dl)
 sh:j2 [iD nm fs,WD rz]=.ok (ip (dl.map (iG m)))
section
variable{rz:List (List Nat)}{n m:Nat}{nm:Str}{fs:List (Str×D)}{dl:List Nat}
theorem Iw(R:Rws rz n m)(hl:dl.length=n):jv [.lst [TN dl],nD m]=.ok (ip (dl.map (iG m))):=by have hn:=R.n7;have hm:=R.m8;have:=KA (dls:=[dl]) (n:=n) (m:=m) (by simp) (by simp) (fun d hd=>by rw[Qbf.mp hd];exact hl) (by omega) (by omega);rw[ME hl]at this;exact this
theorem BL(R:Rws rz n m){oz:List (Option Nat)}{od:D}(hl:dl.length=n)(h:iM [WD rz,OD oz,od]=.ok (TN dl)):Rl rz m "ByRings" [("owns",OD oz),("order",od)] dl:=by
 have su:iA [RO oz od,WD rz]=.ok (TN dl):=by show zB [RO oz od,WD rz]=_;refine cU (B:=yY) (n:=2) ?_;unfold yY;exact cG (cP (bN (aL rfl (aL (gE rfl uU) (aL (gE rfl qZ) aO))) h))
 refine⟨rfl,rfl,rfl,rfl,rfl,su,?_⟩;show yS [RO oz od,WD rz]=_;refine cU (B:=yN) (n:=2) ?_;unfold yN;exact cG (cP (bN (aL (iz (aL (kY rfl (aL rfl aO) rfl rfl su) aO) (by simp)) (aL (bN (aL rfl aO) R.things) aO)) (Iw R hl)))
theorem BK(R:Rws rz n m){od:D}(hl:dl.length=n)(h:h9 [WD rz,od]=.ok (TN dl)):Rl rz m "ByOrder" [("order",od)] dl:=by
 have su:iA [OO od,WD rz]=.ok (TN dl):=by show zA [OO od,WD rz]=_;refine cU (B:=yX) (n:=2) ?_;unfold yX;exact cG (cP (bN (aL rfl (aL (gE rfl qY) aO)) h))
 refine⟨rfl,rfl,rfl,rfl,rfl,su,?_⟩;show yQ [OO od,WD rz]=_;refine cU (B:=yL) (n:=2) ?_;unfold yL;exact cG (cP (bN (aL (iz (aL (kY rfl (aL rfl aO) rfl rfl su) aO) (by simp)) (aL (bN (aL rfl aO) R.things) aO)) (Iw R hl)))
theorem LZ(l:List (Int×Nat)):Qbe (cu (TF l)) (cu (TF l))=true:=by simp only[cu,Qbe];exact IG l
theorem Jm:∀t:List (List (Int×Nat)),Qao (zcM (t.map TF)) (zcM (t.map TF))=true
|[]=>by simp[zcM,Qao]
|l::t=>by have h1:=LZ l;have h2:=Jm t;simp only[o_,zcM,Qao,h1,h2,Qf2]
theorem GW(t:List (List (Int×Nat))):gZ (ip t) (ip t)=some true:=by
 have sh:dk 60 (ip t):=lG.mpr fun d hd=>by obtain⟨l,_,rfl⟩:=A_.mp hd;exact lG.mpr V4
 rw[rH rfl sh sh];unfold lf;simp only[cu,Qbe,Jm]
theorem O0(t:List (List (Int×Nat))):eqD (ip t) (ip t)=some (.bl true):=by unfold eqD;rw[GW];rfl
theorem HL(t:List (List (Int×Nat))):neD (ip t) (ip t)=some (.bl false):=by unfold neD;rw[GW];rfl
theorem GS(R:Rws rz n m)(d0 d2 d3:Option D):∀(l a:List Nat)(y:Option D),a.length+l.length<=60 ->∃y',bM (bS 5) KI (l.map nD) [d0,some (WD rz),d2,d3,some (i4 (a.map (iG m))),y]=.nx [d0,some (WD rz),d2,d3,some (i4 ((a++l).map (iG m))),y']
|[],a,y,_=>⟨y,by rw[W_];exact gq⟩
|t::l,a,y,hl=>by
  obtain⟨y',ih⟩:=GS R d0 d2 d3 l (a++[t]) (some (nD t)) (by simp at hl ⊢;omega);refine⟨y',?_⟩;rw[Qab]at ih;rw[show a++t::l=a++([t]++l)from rfl,<-ih];have hm:=R.m8;obtain⟨r0,Y,U⟩:=R.ix0;refine fH (r1:=[d0,some (WD rz),d2,d3,some (i4 (a.map (iG m))),some (nD t)]) rfl ?_;have el:i4 ((a++[t]).map (iG m))=.lst ((a.map (iG m)).map TF++[TF (iG m t)]):=by show D.lst _=_;rw[P_,P_];rfl
  rw[el];refine aZ (ja (d:=i4 (a.map (iG m))) (ds:=[TF (iG m t)]) rfl rfl (aL (dc (aL (d:=.lst ((e_ m).map fun j=>FR ((if j=t then 1 else 0:Int),1))) ?_ aO) ?_) aO) (kU (by simp at hl ⊢;omega)))
  .refine lJ (l:=e_ m) nD (fun j=>FR ((if j=t then 1 else 0:Int),1)) (jV (aL (dc (aL (aX rfl rfl Y) aO) U) aO) (jT (by omega))) (by simp;omega) fun j _=>⟨[some (nD j),some (nD t)],rfl,?_⟩
   have e1:(fC (aI (f2 (gv 0) (gv 1) eqD) aH) qz) [some (nD j),some (nD t)]=.ok (.int (if j=t then 1 else 0)):=by
    refine dc (aL (aX (a:=nD j) (b:=nD t) rfl rfl (i8 j t)) aO) ?_;show some (D.int (if decide (j=t)=true then 1 else 0))=some (D.int (if j=t then 1 else 0));by_cases z:j=t
    .rw[decide_eq_true z,if_pos rfl,if_pos z]
    .rw[decide_eq_false z,if_neg d_,if_neg z]
   exact nI (ds:=[.int (if j=t then 1 else 0),.int 1]) (aL e1 (aL (d:=.int 1) rfl aO)) (by simp)
  .rw[e_tupL];show some (D.tup _)=some (D.tup _);rw[R_];rfl
theorem pN(R:Rws rz n m)(P:Rl rz m nm fs dl)(hl:dl.length=n)(b:Bool):lP [iD nm fs,WD rz,TN dl,.bl b]=.ok (.bl true):=by
 have hn:=R.n7;refine cU (B:=C0) (n:=6) ?_;unfold C0;obtain⟨y',h1⟩:=GS R (some (iD nm fs)) (some (TN dl)) (some (.bl b)) dl [] none (by simp;omega);refine(aZ (cH (d:=.lst []) (iz aO (by simp)))).trans ?_;refine(aZ ((fL (ds:=dl.map nD) (mW rfl rfl)).trans h1)).trans ?_;have tp:tupD [i4 (dl.map (iG m))]=some (ip (dl.map (iG m))):=e_tupL _;have ts:=cW (aX (f:=iK k6 "shares" (gv 0) (aI (gv 1) aH) j2) (f':=fC (aI (gv 4) aH) tupD) (r:=[some (iD nm fs),some (WD rz),some (TN dl),some (.bl b),some (i4 (([]++dl).map (iG m))),y']) (kY rfl (aL rfl aO) P.hh P.l2 P.sh) (dc (aL rfl aO) tp) (HL _));refine(aZ ((cR ?_).trans (e_skip _))).trans ?_
 .cases b with
 |true=>exact(nC (eZ (d:=.bl true) rfl rfl)).trans ts
 |false=>exact pi (eZ (d:=.bl false) rfl rfl)
 refine(aZ ((cR ?_).trans (e_skip _))).trans ?_
 .refine(dR (iL (b:=true) (eZ (d:=.bl true) (gE rfl ?_) rfl))).trans ?_
  .show(nH nm).map D.bl=_;rw[P.tn];rfl
  refine(dR (cW (aX (kY rfl (aL rfl aO) P.hs P.l1 P.su) rfl (Wo _)))).trans ts
 refine cG (cP ?_);rw[A2 (gE (kY rfl (aL rfl aO) P.hh P.l2 P.sh) rfl)];exact aX (kY rfl (aL rfl aO) P.hs P.l1 P.su) rfl (V8 _)
end
end Law
namespace Law
open PySem PyProof.Rows L2 DL
theorem gH{s1 s2:FS}{r r':aQ}{x:D}(h:s1 r=.exc x r'):aG s1 s2 r=.exc x r':=by unfold aG;rw[h]
theorem jc{B:FS}{n:Nat}{ds:List D}{x:D}{r':aQ}(h:B (bL n ds)=.exc x r'):aT false (B (bL n ds))=.exc x:=by rw[h];rfl
theorem Oq{m:List Md}{nm f:Str}{fl:aQ->Res (List D)}{r:aQ}{i:Int}(h:fl r=.ok [.int i])(hi:i.natAbs.log2<64):uO m nm f fl r=.exc (xD nm [(f,.int i)]) (forget m r):=by unfold uO;rw[h,onE_ok];show(if i.natAbs.log2<64 then _ else _)=_;rw[if_pos hi]
theorem Ho{m:List Md}{nm:Str}{fl:aQ->Res (List D)}{r:aQ}{d:D}(h:fl r=.ok [d]):kj m nm fl r=.exc (xD nm []) (forget m r):=by unfold kj;rw[h,onE_ok];rfl
theorem Sl{k:Nat}(h:k<=60):((k:Nat):Int).natAbs.log2<64:=by rw[O_];have:=Nat.log2_le_self k;omega
theorem lH{fl:aQ->Res (List D)}{dds zs:List D}{F:List D->Res D}{r:aQ}{d:Res D}(h1:fl r=.ok zs)(h2:F (zs++dds)=d):iw fl dds F r=d:=by unfold iw;rw[h1,bind_ok,h2]
theorem vU{m:List Md}{f:FE}{r:aQ}{x:D}(h:f r=.exc x):jl m f r=.exc x (forget m r):=by unfold jl;rw[h];rfl
theorem Pn{m:List Md}{i:Nat}{f:FE}{r:aQ}{x:D}(h:f r=.exc x):aR m i f r=.exc x (forget m r):=by unfold aR;rw[h];rfl
theorem pJ{m:List Md}{f:FE}{r:aQ}{x:D}(h:f r=.exc x):aS m f r=.exc x (forget m r):=by unfold aS;rw[h];rfl
theorem IV{m:List Md}{fe:FE}{ft:FT}{b:FS}{r:aQ}{x:D}(h:fe r=.exc x):qP m (bP dy fe) ft b r=.exc x (forget m r):=by unfold qP bP;rw[h];rfl
theorem vW{hit:Str->Bool}{mt nm:Str}{fo:FE}{fl:aQ->Res (List D)}{F:List D->Res D}{r:aQ}{fs:List (Str×D)}{ds:List D}{d:Res D}(h1:fo r=.ok (iD nm fs))(h2:fl r=.ok ds)(h3:hit nm=true)(h4:fs.lookup mt=none)(h5:F (iD nm fs::ds)=d):lp hit mt fo fl F r=d:=by unfold lp;rw[h1,bind_ok];show(if hit nm=true/\fs.lookup mt=none then _ else _)=_;rw[if_pos ⟨h3,h4⟩,h2,bind_ok,h5]
structure Bad(n:Nat)(l:List Nat):Prop where
 le:l.length<=60
 ne:l.length≠n
 fw:∃k,k<=60/\oi [LN l,nD n]=.ok (nD k)
theorem Pg{o:List Nat}{n:Nat}(hp:o.Perm (e_ n))(h1:1<=n)(h7:n<=7):Bad n (o++[0]):=by
 have hl:o.length=n:=by rw[hp.length_eq];simp
 refine⟨by simp;omega,by simp;omega,n,by omega,?_⟩;have h:=Gc (b:=n) (z:=0) (LN (o++[0])) (by omega) o [] none none (hp.nodup_iff.mpr Qav) (fun k hk=>z_.mp (hp.mem_iff.mp hk)) (by simp;omega) (by rw[QaY];exact hp.mem_iff.mpr (z_.mpr (by omega)));refine cU (B:=sm) (n:=5) ?_;unfold sm;refine(aZ (r':=[some (LN (o++[0])),some (nD n),some (hV []),none,none]) rfl).trans ?_;rw[Qbo,QbL,hl]at h;exact cG ((fL (ds:=eu 0 ((o++[0]).map nD)) rfl).trans h)
theorem Rk{o:List Nat}{n:Nat}(hp:o.Perm (e_ n))(h1:1<=n)(h7:n<=7):Bad n (o.drop 1):=by
 have hl:o.length=n:=by rw[hp.length_eq];simp
 refine⟨by simp;omega,by simp;omega,(o.drop 1).length,by simp;omega,Lb ((hp.nodup_iff.mpr Qav).sublist (List.drop_sublist 1 o)) (fun k hk=>z_.mp (hp.mem_iff.mp (List.mem_of_mem_drop hk))) (by simp;omega)⟩
variable{rz:List (List Nat)}{n m:Nat}
section
variable{l:List Nat}
theorem HB(R:Rws rz n m)(b:Bad n l):∃x,pY [WD rz,LN l]=.exc (xD "NoOrder" [("at",.int x)]):=by
 obtain⟨k,hk,f1⟩:=b.fw;have h:og [LN l,nD n]=.ok (.bl false):=by refine cU (B:=sw) (n:=2) ?_;unfold sw;refine cG (cP ?_);have e:=i8 l.length n;rw[decide_eq_false b.ne]at e;exact NO (aX (a:=nD l.length) (b:=nD n) (dc (aL (d:=LN l) rfl aO) (m4 _ _)) rfl e)
 refine⟨(k:Int),jc (B:=xU) (n:=2) (r':=forget bO [some (WD rz),some (LN l)]) ?_⟩;unfold xU;refine(aZ (r':=[some (WD rz),some (LN l)]) ((cR (cW (aX rfl rfl rfl))).trans (e_skip _))).trans ?_;exact gH ((eU (iL (b:=false) (eZ (bN (aL rfl (aL (d:=nD n) (dc (aL rfl aO) R.len) aO)) h) rfl))).trans (gH (Oq (aL (bN (aL rfl (aL (d:=nD n) (dc (aL rfl aO) R.len) aO)) f1) aO) (Sl hk))))
theorem EJ(R:Rws rz n m)(b:Bad n l):∃x,xW [WD rz,LN l]=.exc (xD "NoOrder" [("at",.int x)]):=by have U:=R.m8;obtain⟨x,hx⟩:=HB R b;refine⟨x,jc (B:=xP) (n:=5) (r':=forget jA [some (WD rz),some (LN l),some (LN (e_ m)),some (KD []),none]) ?_⟩;unfold xP;refine(aZ (cH (dc (aL (bN (aL rfl aO) R.things) aO) (uY (by omega))))).trans ?_;refine(aZ (r':=[some (WD rz),some (LN l),some (LN (e_ m)),some (KD []),none]) rfl).trans ?_;exact gH (IV (lH (aL rfl (aL rfl aO)) hx))
theorem PZ(R:Rws rz n m)(b:Bad n l)(oz:List (Option Nat)):∃x,xX [WD rz,OD oz,LN l]=.exc (xD "NoOrder" [("at",.int x)]):=by
 obtain⟨x,hx⟩:=HB R b;have h1:wX [WD rz,OD oz,LN l]=.exc (xD "NoOrder" [("at",.int x)]):=by apply jc (B:=wU) (n:=9);unfold wU;exact gH (Pn (lH (aL rfl (aL rfl aO)) hx))
 refine⟨x,jc (B:=xQ) (n:=5) (r':=forget l5 [some (WD rz),some (OD oz),some (LN l),some (KD []),none]) ?_⟩;unfold xQ;refine(aZ (r':=[some (WD rz),some (OD oz),some (LN l),some (KD []),none]) rfl).trans ?_;exact gH (IV (lH (aL rfl (aL rfl (aL rfl aO))) h1))
structure Rf(rz:List (List Nat))(nm:Str)(fs:List (Str×D))(x:Str)(ds:List (Str×D)):Prop where
 hh:rT nm=true
 l2:fs.lookup ("shares" : Str)=none
 sh:sf [iD nm fs,WD rz]=.exc (xD x ds)
structure Rs(rz:List (List Nat))(nm:Str)(fs:List (Str×D))(x:Str)(ds:List (Str×D)):Prop where
 hs:lK nm=true
 l1:fs.lookup ("sure" : Str)=none
 su:ke [iD nm fs,WD rz]=.exc (xD x ds)
theorem Jj{fl:aQ->Res (List D)}{dds:List D}{F:List D->Res D}{r:aQ}{x:D}(h:fl r=.exc x):bI fl dds F r=.exc x:=by unfold bI;rw[h];rfl
theorem uP{f:FE}{fl:aQ->Res (List D)}{r:aQ}{x:D}(h:f r=.exc x):aI f fl r=.exc x:=by unfold aI;rw[h];rfl
theorem GU{fl:aQ->Res (List D)}{r:aQ}{x:D}(h:fl r=.exc x):fW fl r=.exc x:=by unfold fW;rw[h];rfl
theorem L1{f f':FE}{k:D->D->Option D}{r:aQ}{x:D}(h:f r=.exc x):f2 f f' k r=.exc x:=by unfold f2;rw[h];rfl
theorem RI(R:Rws rz n m)(b:Bad n l):∃x,Rs rz "ByOrder" [("order",LN l)] "NoOrder" [("at",.int x)]/\Rf rz "ByOrder" [("order",LN l)] "NoOrder" [("at",.int x)]:=by
 obtain⟨x,hx⟩:=EJ R b;have su:ke [OO (LN l),WD rz]=.exc (xD "NoOrder" [("at",.int x)]):=by show yR [OO (LN l),WD rz]=_;apply jc (B:=yM) (n:=2);unfold yM;exact gH (pJ (lH (aL rfl (aL (gE rfl qY) aO)) hx))
 refine⟨x,⟨rfl,rfl,su⟩,rfl,rfl,?_⟩;show zK [OO (LN l),WD rz]=_;apply jc (B:=zI) (n:=2);unfold zI;exact gH (pJ (Jj (uP (GU (uP (vW rfl (aL rfl aO) rfl rfl su))))))
theorem RJ(R:Rws rz n m)(b:Bad n l)(oz:List (Option Nat)):∃x,Rs rz "ByRings" [("owns",OD oz),("order",LN l)] "NoOrder" [("at",.int x)]/\Rf rz "ByRings" [("owns",OD oz),("order",LN l)] "NoOrder" [("at",.int x)]:=by
 obtain⟨x,hx⟩:=PZ R b oz;have su:ke [RO oz (LN l),WD rz]=.exc (xD "NoOrder" [("at",.int x)]):=by show yT [RO oz (LN l),WD rz]=_;apply jc (B:=yO) (n:=2);unfold yO;exact gH (pJ (lH (aL rfl (aL (gE rfl uU) (aL (gE rfl qZ) aO))) hx))
 refine⟨x,⟨rfl,rfl,su⟩,rfl,rfl,?_⟩;show zL [RO oz (LN l),WD rz]=_;apply jc (B:=zJ) (n:=2);unfold zJ;exact gH (pJ (Jj (uP (GU (uP (vW rfl (aL rfl aO) rfl rfl su))))))
theorem N0(R:Rws rz n m)(h:5<n):Rf rz "ByLot" [] "TooMany" []:=by refine⟨rfl,rfl,?_⟩;show yP [iD "ByLot" [],WD rz]=_;apply jc (B:=yK) (n:=2);unfold yK;refine gH (pJ (lH (aL rfl aO) ?_));apply jc (B:=vI) (n:=2);unfold vI;refine gH (vU (lH (aL rfl aO) ?_));apply jc (B:=zW) (n:=1);unfold zW;have e:=mE n 5;rw[decide_eq_true h]at e;exact gH ((eU (cW (aX (a:=nD n) (b:=nD 5) (dc (aL rfl aO) R.len) rfl e))).trans (gH (Ho (aL rfl aO))))
theorem P7(R:Rws rz n m):nZ [WD rz]=.ok (.bl (decide (m=n))):=by refine cU (B:=se) (n:=1) ?_;unfold se;exact cG (cP (aX (a:=nD m) (b:=nD n) (bN (aL rfl aO) R.things) (dc (aL rfl aO) R.len) (i8 m n)))
theorem NZ(R:Rws rz n m)(h:n<m):Rf rz "ByEating" [] "NotSquare" []:=by refine⟨rfl,rfl,?_⟩;show zO [iD "ByEating" [],WD rz]=_;apply jc (B:=zN) (n:=2);unfold zN;refine gH (pJ (L1 (lH (aL rfl aO) ?_)));apply jc (B:=wT) (n:=3);unfold wT;refine gH (vU (lH (aL rfl aO) ?_));apply jc (B:=zR) (n:=1);unfold zR;have e:=P7 R;rw[decide_eq_false (by omega)]at e;exact gH ((eU (iL (b:=false) (eZ (bN (aL rfl aO) e) rfl))).trans (gH (Ho (aL rfl aO))))
def xw(x:Str):Str:=if x = "NoOrder" then "order" else if x = "NotSquare" then "square" else "many"
theorem R4{m1:List Md}{fb:FS}{fh:Str->FS}{r r':aQ}{nm:Str}{ds:List (Str×D)}(h:fb r=.exc (xD nm ds) r'):kh m1 fb fh r=fh nm r':=by unfold kh;rw[h];rfl
theorem Kq{nm:Str}{fs:List (Str×D)}{x:Str}{ds:List (Str×D)}{w:Nat}(hx:x = "NoOrder"\/x = "NotSquare"\/x = "TooMany")(h:(dj fR (bW (f2 (gv 2) (ci 0) eqD)) (aG (jl fR (lp lK "sure" (gv 0) (aI (gv 1) aH) ke)) aV) (aG (jl fR (lp rT "shares" (gv 0) (aI (gv 1) aH) sf)) aV)) [some (iD nm fs),some (WD rz),some (nD w),some (.str "")]=.exc (xD x ds) (forget fR [some (iD nm fs),some (WD rz),some (nD w),some (.str "")])):ju [iD nm fs,WD rz,nD w]=.ok (.str (xw x)):=by refine cU (B:=Dv) (n:=4) ?_;unfold Dv;refine(aZ (cH (d:=.str "") rfl)).trans ?_;refine(aZ ((R4 (gH h)).trans (?_:_=Out.nx ((forget fR [some (iD nm fs),some (WD rz),some (nD w),some (.str "")]).set 3 (some (.str (xw x))))))).trans (cG (cP rfl));rcases hx with rfl|rfl|rfl <;> rfl
theorem Ja{nm:Str}{fs:List (Str×D)}{x:Str}{ds:List (Str×D)}(hx:x = "NoOrder"\/x = "NotSquare"\/x = "TooMany")(P:Rs rz nm fs x ds):ju [iD nm fs,WD rz,nD 0]=.ok (.str (xw x)):=Kq hx ((eU (cW (aX rfl rfl (i8 0 0)))).trans (gH (vU (vW rfl (aL rfl aO) P.hs P.l1 P.su))))
theorem wH{nm:Str}{fs:List (Str×D)}{x:Str}{ds:List (Str×D)}(hx:x = "NoOrder"\/x = "NotSquare"\/x = "TooMany")(P:Rf rz nm fs x ds):ju [iD nm fs,WD rz,nD 1]=.ok (.str (xw x)):=Kq hx ((cR (cW (aX rfl rfl (i8 1 0)))).trans (gH (vU (vW rfl (aL rfl aO) P.hh P.l2 P.sh))))
end
theorem Mr{a b:List Nat}(h:a.length+b.length<=1000):addA (LN a) (LN b)=some (LN (a++b)):=by show(if (a.map nD).length+(b.map nD).length<=sizeLine then some (D.lst (a.map nD++b.map nD))else none)=_;rw[if_pos (by rw[l_,l_,Qaa];omega),<-P_]
theorem IH:∀l:List (Option Nat),Qao (zcM (l.map oD)) (zcM (l.map oD))=true
|[]=>by simp[zcM,Qao]
|x::l=>by have ih:=IH l;cases x with
 |none=>simp only[o_,oD,zcM,cu,Qao,Qbe,ih,Qf2]
 |some k=>simp only[o_,oD,zcM,cu,Qao,Qbe,ih];simp
theorem Gi(l:List (Option Nat)):neD (OD l) (OD l)=some (.bl false):=by
 have sh:dk 60 (OD l):=lG.mpr fun d hd=>by obtain⟨x,_,rfl⟩:=A_.mp hd;cases x <;> trivial
 have:gZ (OD l) (OD l)=some true:=by rw[rH rfl sh sh];unfold lf;simp only[cu,Qbe,IH]
 unfold neD;rw[this];rfl
theorem Q7(R:Rws rz n m):xG [WD rz,nD n,nD m]=.ok (.bl true):=by
 refine cU (B:=CY) (n:=5) ?_;unfold CY;have s1:iA [iD "ByLot" [],WD rz]=.ok .non:=rfl;have s2:iA [iD "ByEating" [],WD rz]=.ok .non:=rfl;refine(aZ (cH (d:=iD "ByLot" []) rfl)).trans ?_;refine(aZ (cH (d:=iD "ByEating" []) rfl)).trans ?_;refine(aZ ((cR ((dR (cW (aX (kY rfl (aL rfl aO) rfl rfl s1) rfl rfl))).trans (cW (aX (kY rfl (aL rfl aO) rfl rfl s2) rfl rfl)))).trans (e_skip _))).trans ?_;refine(aZ ((cR ?_).trans (e_skip _))).trans ?_
 .have t1:(eV (bW (f2 (gv 1) (ci 5) jj)) (bW (f2 (bI (aI (gv 3) (aI (gv 0) (aI (ci 1) aH))) [] ju) (fun _=>Res.ok (D.str "many")) neD))) [some (WD rz),some (nD n),some (nD m),some (iD "ByLot" []),some (iD "ByEating" [])]=.ok false:=by
   have e:=mE n 5;by_cases h:5<n
   .rw[decide_eq_true h]at e;exact(nC (cW (aX (a:=nD n) (b:=nD 5) rfl rfl e))).trans (cW (aX (bN (aL rfl (aL rfl (aL (d:=nD 1) rfl aO))) (wH (.inr (.inr rfl)) (N0 R h))) rfl rfl))
   .rw[decide_eq_false h]at e;exact pi (cW (aX (a:=nD n) (b:=nD 5) rfl rfl e))
  refine(dR t1).trans ?_;have e:=mE m n;by_cases h:n<m
  .rw[decide_eq_true h]at e;exact(nC (cW (aX (a:=nD m) (b:=nD n) rfl rfl e))).trans (cW (aX (bN (aL rfl (aL rfl (aL (d:=nD 1) rfl aO))) (wH (.inr (.inl rfl)) (NZ R h))) rfl rfl))
  .rw[decide_eq_false h]at e;exact pi (cW (aX (a:=nD m) (b:=nD n) rfl rfl e))
 refine(aZ ((cR ?_).trans (e_skip _))).trans ?_
 .have e:=nz n 6;by_cases h:n<6
  .rw[decide_eq_true h]at e;have hl:=P5 R (by omega) (BG n) (A8 n) (P2 (by omega));have h2:j2 [iD "ByLot" [],WD rz]=.ok (ip (tm (iV n) rz n m)):=by show yZ [iD "ByLot" [],WD rz]=_;refine cU (B:=yW) (n:=2) ?_;unfold yW;exact cG (cP (bN (aL rfl aO) hl))
   exact(nC (cW (aX (a:=nD n) (b:=nD 6) rfl rfl e))).trans (cW (aX (kY rfl (aL rfl aO) rfl rfl h2) (bN (aL rfl aO) hl) (HL _)))
  .rw[decide_eq_false h]at e;exact pi (cW (aX (a:=nD n) (b:=nD 6) rfl rfl e))
 refine cG (cP ?_);have e:=mE m n;by_cases h:n<m
 .rw[decide_eq_true h]at e;exact Mc (aX (a:=nD m) (b:=nD n) rfl rfl e)
 .rw[decide_eq_false h]at e;have hm:m=n:=by have:=R.nm;omega
  subst hm;obtain⟨d,hd⟩:=SU (rz:=rz) (n:=m) ⟨R.n1,R.n7,R.rl,R.rp⟩;have h2:j2 [iD "ByEating" [],WD rz]=.ok (ip (tbl rz m)):=by show zQ [iD "ByEating" [],WD rz]=_;refine cU (B:=zP) (n:=2) ?_;unfold zP;exact cG (cP (aX (bN (aL rfl aO) hd) rfl rfl))
  rw[Mb (aX (a:=nD m) (b:=nD m) rfl rfl e)];exact aX (kY rfl (aL rfl aO) rfl rfl h2) (aX (bN (aL rfl aO) hd) rfl rfl) (O0 _)
theorem Cb{oz:List (Option Nat)}{o:Option (List Nat)}(S:Scene rz oz o n m):∃dl:List Nat,dl.length=n/\iM [WD rz,OD oz,gW o]=.ok (TN dl):=by have:=UL S.ord S.ne (by rw[S.rl];have:=S.n7;omega) S.snd (fun h hh=>S.mem.mpr (by rw[S.rl]at hh;exact hh)) (Rg.Mg ((s0 rz o).line.length+1) _ (Qa1 _));exact⟨_,by rw[l_,QaV,S.rl],this⟩
theorem IY(R:Rws rz n m){o:List Nat}(hp:o.Perm (e_ n)):∃dl:List Nat,dl.length=n/\h9 [WD rz,LN o]=.ok (TN dl):=⟨_,by unfold mz;simp,FO R hp⟩
theorem TJ(R:Rws rz n m):∃dl:List Nat,dl.length=n/\h9 [WD rz,.non]=.ok (TN dl):=by have U:=R.n7;have h:=KS (rz:=rz) (by rw[R.rl];omega);rw[R.rl]at h;exact⟨_,by rw[l_,QaV],Jc R h (QfK _) (Rg.Ai _ (e_ m) Qav)⟩
theorem M9(a b:Nat)(h:b<2):dS (nD a) (nD b)=some (nD (a*b)):=by have e:=HK (a:=(a:Int)) (b:=(b:Int)) (.inr ⟨by omega,by omega⟩);rw[<-QaC]at e;exact e
theorem Wn(ns:List Int):tW [IN ns]=.ok (.bl true):=by
 obtain⟨c1,h1⟩:=wD ns 1 (by decide);obtain⟨c2,h2⟩:=wD ns 2 (by decide);obtain⟨c3,h3⟩:=wD ns 3 (by decide);have hn:c1%7<7:=Qdp _ (by decide);have hm:c1/7%(9-(1+c1%7))<9-(1+c1%7):=Qdp _ (by omega);have LT:c1/63%2<2:=Qdp _ (by decide);have W3:c1/7%(9-(1+c1%7))*(c1/63%2)<=c1/7%(9-(1+c1%7)):=by
  have:c1/63%2<=1:=by omega
  exact L_ (Qem _ this) (by rw[Nat.mul_one];exact r_ _)
 have e1:f2 (ci 1) (f2 (gv 1) (ci 7) cQ) addA [some (IN ns),some (nD c1),none,none,none,none,none,none,none,none,none,none,none]=.ok (nD (1+c1%7)):=aX (a:=nD 1) (b:=nD (c1%7)) rfl (aX (a:=nD c1) (b:=nD 7) rfl rfl (lz (by decide))) (mM _ _);have e2:f2 (gv 2) (f2 (f2 (f2 (gv 1) (ci 7) jO) (f2 (ci 9) (gv 2) iP) cQ) (f2 (f2 (gv 1) (ci 63) jO) (ci 2) cQ) dS) addA [some (IN ns),some (nD c1),some (nD (1+c1%7)),none,none,none,none,none,none,none,none,none,none]=.ok (nD (1+c1%7+c1/7%(9-(1+c1%7))*(c1/63%2))):=by
  have W4:iP (.int 9) (nD (1+c1%7))=some (nD (9-(1+c1%7))):=by
   have e:(9:Int)-((1+c1%7:Nat):Int)=((9-(1+c1%7):Nat):Int):=by omega
   show some (D.int ((9:Int)-((1+c1%7:Nat):Int)))=some (D.int _);rw[e]
  exact aX (a:=nD (1+c1%7)) (b:=nD (c1/7%(9-(1+c1%7))*(c1/63%2))) rfl (aX (a:=nD (c1/7%(9-(1+c1%7)))) (b:=nD (c1/63%2)) (aX (a:=nD (c1/7)) (b:=nD (9-(1+c1%7))) (aX (a:=nD c1) (b:=nD 7) rfl rfl (rA (by decide) (by decide))) (aX (a:=.int 9) (b:=nD (1+c1%7)) rfl rfl W4) (lz (by omega))) (aX (a:=nD (c1/63)) (b:=nD 2) (aX (a:=nD c1) (b:=nD 63) rfl rfl (rA (by decide) (by decide))) rfl (lz (by decide))) (M9 _ _ LT)) (mM _ _)
 have b1:1<=1+c1%7:=by omega
 have b7:1+c1%7<=7:=by omega
 have b8:1+c1%7+c1/7%(9-(1+c1%7))*(c1/63%2)<=8:=by omega
 have bm:1+c1%7<=1+c1%7+c1/7%(9-(1+c1%7))*(c1/63%2):=by omega
 clear W3 hm LT hn;generalize 1+c1%7+c1/7%(9-(1+c1%7))*(c1/63%2)=m at *;generalize 1+c1%7=n at *;obtain⟨rz,r1,r2,r3⟩:=JZ ns 4 n m (by omega) (by omega) (by omega);obtain⟨U,KK,IO,W5⟩:=JZ ns 12 n m (by omega) (by omega) (by omega);obtain⟨oz,w1,w2,w3⟩:=RM c2 n m (by omega) (by omega);obtain⟨o,l1,l2⟩:=Hv c3 n (by omega);have W6:o.length=n:=by rw[l1.length_eq];simp
 have R:Rws rz n m:=⟨b1,b7,bm,b8,r1,r2⟩
 have R':Rws U n m:=⟨b1,b7,bm,b8,KK,IO⟩
 obtain⟨d1,Tm,BT⟩:=Cb (o:=some o) ⟨b1,b7,bm,b8,r1,r2,w1,w2,fun l hl=>by cases hl;exact l1⟩;obtain⟨d2,ST,WX⟩:=IY R l1;obtain⟨d3,W1,Z⟩:=Cb (o:=none) ⟨b1,b7,bm,b8,r1,r2,w1,w2,fun l hl=>nomatch hl⟩;obtain⟨d4,W2,WY⟩:=TJ R;obtain⟨d5,WW,Y⟩:=Cb (o:=some o) ⟨b1,b7,bm,b8,KK,IO,w1,w2,fun l hl=>by cases hl;exact l1⟩;obtain⟨d6,Ty,LE⟩:=IY R' l1;replace BT:iM [WD rz,OD oz,LN o]=.ok (TN d1):=BT;replace Z:iM [WD rz,OD oz,.non]=.ok (TN d3):=Z;replace Y:iM [WD U,OD oz,LN o]=.ok (TN d5):=Y;have cl:∀k:Nat,∀{c:Nat}{r:aQ},r[0]? = some (some (IN ns))->kb [IN ns,nD k]=.ok (nD c)->bI (aI (gv 0) (aI (fun _=>Res.ok (D.int (k:Int))) aH)) [] kb r=.ok (nD c):=fun k c r hr e=>bN (aL (d:=IN ns) (by show fZ r 0=_;unfold fZ;rw[hr]) (aL (d:=nD k) rfl aO)) e;have kO:Cp 5 (OD oz):=WA 4 (by omega);have kL:Cp 5 (LN o):=Al 4 (by omega);have mR:=BI kO kL;have mO:=BH kL;have WZ:=BI kO (show Cp 5 .non from trivial);have W0:=BH (show Cp 5 .non from trivial);refine cU (B:=tX) (n:=13) ?_;unfold tX;refine(aZ (cH (cl 1 rfl h1))).trans ?_;refine(aZ (cH e1)).trans ?_;refine(aZ (cH e2)).trans ?_;refine(aZ (cH (bN (aL (d:=IN ns) rfl (aL (d:=nD 4) rfl (aL (d:=nD n) rfl (aL (d:=nD m) rfl aO)))) r3))).trans ?_;refine(aZ (cH (bN (aL (cl 2 rfl h2) (aL (d:=nD n) rfl (aL (d:=nD m) rfl aO))) w3))).trans ?_;refine(aZ (cH (d:=LN o) (dc (aL (bN (aL (cl 3 rfl h3) (aL (d:=nD n) rfl aO)) l2) aO) rfl))).trans ?_;refine(aZ (cH (d:=LN o) (dc (aL (d:=LN o) rfl aO) rfl))).trans ?_;refine(aZ (cH (d:=RO oz (LN o)) (mX (aL (d:=OD oz) rfl (aL (d:=LN o) rfl aO)) mR))).trans ?_;refine(aZ (cH (d:=OO (LN o)) (mX (aL (d:=LN o) rfl aO) mO))).trans ?_;refine(aZ ((cR ?_).trans (e_skip _))).trans ?_
 .refine(dR (cW (aX (gE rfl uU) rfl (Gi _)))).trans ?_;refine(dR (cW (aX (gE rfl qZ) rfl (uC _)))).trans ?_;refine(dR (cW (aX (gE rfl qY) rfl (uC _)))).trans ?_;exact cW (aX (gE (mX aO W0) qY) rfl rfl)
 refine(aZ (ja (d:=LN o) (ds:=[]) rfl rfl aO rfl)).trans ?_;refine(aZ (ja (d:=.lst (o.map nD).reverse) (ds:=[nD 0]) rfl rfl (aL (d:=nD 0) rfl aO) (kU (by simp;omega)))).trans ?_;refine(aZ ((cR ?_).trans (e_skip _))).trans ?_
 .refine(dR (cW (aX (gE rfl uU) rfl (Gi _)))).trans ?_;refine(dR (cW (aX (gE rfl qZ) rfl (uC _)))).trans ?_;refine(dR (cW (aX (gE rfl qY) rfl (uC _)))).trans ?_;exact cW (aX (gE (mX (aL (d:=OD oz) rfl aO) WZ) qZ) rfl rfl)
 refine(aZ (cH (d:=nD (c1/126%4)) (aX (a:=nD (c1/126)) (b:=nD 4) (aX (a:=nD c1) (b:=nD 126) rfl rfl (rA (by decide) (by decide))) rfl (lz (by decide))))).trans ?_;generalize c1/126%4=t;refine(aZ ((cR (iL (b:=true) (eZ (bN (aL (d:=RO oz (LN o)) rfl (aL (d:=WD rz) rfl (aL (bN (aL (d:=WD rz) rfl (aL (d:=OD oz) rfl (aL (d:=LN o) rfl aO))) BT) (aL (aX (a:=nD (t%2)) (b:=nD 1) (aX (a:=nD t) (b:=nD 2) rfl rfl (lz (by decide))) rfl (i8 _ 1)) aO)))) (pN R (BL R Tm BT) Tm _)) rfl))).trans (e_skip _))).trans ?_;refine(aZ ((cR (iL (b:=true) (eZ (bN (aL (d:=OO (LN o)) rfl (aL (d:=WD rz) rfl (aL (bN (aL (d:=WD rz) rfl (aL (d:=LN o) rfl aO)) WX) (aL (aX (a:=nD t) (b:=nD 1) rfl rfl (mE t 1)) aO)))) (pN R (BK R ST WX) ST _)) rfl))).trans (e_skip _))).trans ?_;refine(aZ ((cR (iL (b:=true) (eZ (bN (aL (d:=RO oz .non) (mX (aL (d:=OD oz) rfl aO) WZ) (aL (d:=WD rz) rfl (aL (bN (aL (d:=WD rz) rfl (aL (d:=OD oz) rfl aO)) Z) (aL (aX (a:=nD (t%2)) (b:=nD 0) (aX (a:=nD t) (b:=nD 2) rfl rfl (lz (by decide))) rfl (i8 _ 0)) aO)))) (pN R (BL R W1 Z) W1 _)) rfl))).trans (e_skip _))).trans ?_;refine(aZ ((cR (iL (b:=true) (eZ (bN (aL (d:=OO .non) (mX aO W0) (aL (d:=WD rz) rfl (aL (bN (aL (d:=WD rz) rfl aO) WY) (aL (aX (a:=nD t) (b:=nD 2) rfl rfl (nz t 2)) aO)))) (pN R (BK R W2 WY) W2 _)) rfl))).trans (e_skip _))).trans ?_;refine(aZ (cH (bN (aL (d:=IN ns) rfl (aL (d:=nD 12) rfl (aL (d:=nD n) rfl (aL (d:=nD m) rfl aO)))) W5))).trans ?_;refine(aZ ((cR (iL (b:=true) (eZ (bN (aL (d:=RO oz (LN o)) rfl (aL (d:=WD U) rfl (aL (bN (aL (d:=WD U) rfl (aL (d:=OD oz) rfl (aL (d:=LN o) rfl aO))) Y) (aL (aX (a:=nD (t%2)) (b:=nD 0) (aX (a:=nD t) (b:=nD 2) rfl rfl (lz (by decide))) rfl (i8 _ 0)) aO)))) (pN R' (BL R' WW Y) WW _)) rfl))).trans (e_skip _))).trans ?_;refine(aZ ((cR (iL (b:=true) (eZ (bN (aL (d:=OO (LN o)) rfl (aL (d:=WD U) rfl (aL (bN (aL (d:=WD U) rfl (aL (d:=LN o) rfl aO)) LE) (aL (aX (a:=nD t) (b:=nD 2) rfl rfl (nz t 2)) aO)))) (pN R' (BK R' Ty LE) Ty _)) rfl))).trans (e_skip _))).trans ?_;obtain⟨x1,p1,p2⟩:=RI R (Pg l1 b1 b7);obtain⟨x2,p3,p4⟩:=RJ R (Rk l1 b1 b7) oz;have ca:addA (LN o) (LN [0])=some (LN (o++[0])):=Mr (by simp;omega);have mA:=BH (Al 4 (l:=o++[0]) (by simp;omega));have mB:=BI kO (Al 4 (l:=o.drop 1) (by simp;omega));have wA:∀w:Nat,w<2->ju [OO (LN (o++[0])),WD rz,nD w]=.ok (.str "order"):=fun w hw=>by
  rcases(show w=0\/w=1 by omega)with rfl|rfl
  .exact Ja (.inl rfl) p1
  .exact wH (.inl rfl) p2
 have wB:∀w:Nat,w<2->ju [RO oz (LN (o.drop 1)),WD rz,nD w]=.ok (.str "order"):=fun w hw=>by
  rcases(show w=0\/w=1 by omega)with rfl|rfl
  .exact Ja (.inl rfl) p3
  .exact wH (.inl rfl) p4
 have step:∀(w:Nat),w<2->∀g8 g9 Id Cl:Option D,∀g7:Option D,Gx [some (IN ns),some (nD c1),some (nD n),some (nD m),some (WD rz),some (OD oz),some (LN o),g7,g8,g9,Id,Cl,some (nD w)]=.nx [some (IN ns),some (nD c1),some (nD n),some (nD m),some (WD rz),some (OD oz),some (LN o),g7,g8,g9,Id,Cl,some (nD w)]:=fun w hw g8 g9 Id Cl g7=>by
  refine(aZ ((cR (cW (aX (bN (aL (mX (aL (aX (a:=LN o) (b:=LN [0]) rfl (iz (aL (d:=nD 0) rfl aO) (by simp)) ca) aO) mA) (aL (d:=WD rz) rfl (aL (d:=nD w) rfl aO))) (wA w hw)) rfl rfl))).trans (e_skip _))).trans ?_;have hs:iP (.int 1) (nD w)=some (nD (1-w)):=by show some (D.int ((1:Int)-(w:Int)))=some (D.int ((1-w:Nat):Int));rw[show(1:Int)-(w:Int)=((1-w:Nat):Int)by omega]
  exact aZ ((cR (cW (aX (bN (aL (mX (aL (d:=OD oz) rfl (aL (d:=LN (o.drop 1)) (Av (d:=LN o) rfl (Bc (i:=((1:Nat):Int)) rfl) rfl (HW (by omega))) aO)) mB) (aL (d:=WD rz) rfl (aL (aX (a:=.int 1) (b:=nD w) rfl rfl hs) aO))) (wB (1-w) (by omega))) rfl rfl))).trans (e_skip _))
 refine(aZ ((fL (ds:=[nD 0,nD 1]) (jV (aL (d:=nD 2) rfl aO) (jT (by omega)))).trans ((fH rfl (step 0 (by omega) _ _ _ _ _)).trans ((fH rfl (step 1 (by omega) _ _ _ _ _)).trans gq)))).trans ?_;exact cG (cP (bN (aL (d:=WD rz) rfl (aL (d:=nD n) rfl (aL (d:=nD m) rfl aO))) (Q7 R)))
theorem main(ns:List Int)(_:ns.length<=63):tW [.lst (ns.map .int)]=.ok (.bl true):=Wn ns
end Law
open PySem PySem.W PyProof.Rows
namespace Law
abbrev WC:List PySem.Str:=["TradeError","TooMany","NotSquare","NoFraction","NoOrder"]
open PySem PySem.Spec PyProof.Rows L2 DL
theorem Ey{P:H_}{w:Z_}{K:W.Frag}{h:Heap}{mg:Str->Option a_}(KX:K.In h)(G:h.Ns N_ mg){cA cB cC cD cE:Addr}{bA bB bC bD bE:List a_}{nE:Addr}{fE:Addr}{Xz Xp W1 Xu LT Xc:a_}{Xv W7:Option Addr}{W0:Array (Option a_)}{L:DL.QL}(aA:W.nsIn K N_ "TradeError" = some (some (.ref cA)))(aB:W.nsIn K N_ "TooMany" = some (some (.ref cB)))(aC:W.nsIn K N_ "NotSquare" = some (some (.ref cC)))(aD:W.nsIn K N_ "NoFraction" = some (some (.ref cD)))(aE:W.nsIn K N_ "NoOrder" = some (some (.ref cE)))(oA:DL.fN K cA=some (bA,(C_ "TradeError")))(W3:bA.contains (Value.type "BaseException")=true)(Xo:bA.contains (Value.type "object")=true)(Xs:W.findIn K (.ref cA) "__getattribute__" = some (some (.builtin "BaseException.__getattribute__")))(Xh:W.findIn K (.ref cA) "__getattr__" = some (none))(Xj:W.findIn K (.ref cA) "__class__" = some (some (.builtin "object.__class__")))(XS:DL.fm K "TradeError" cA=true)(oB:DL.fN K cB=some (bB,(C_ "TooMany")))(XD:bB.contains (Value.type "BaseException")=true)(W8:bB.contains (Value.type "object")=true)(Xn:W.findIn K (.ref cB) "__getattribute__" = some (some (.builtin "BaseException.__getattribute__")))(W4:W.findIn K (.ref cB) "__getattr__" = some (none))(Xk:W.findIn K (.ref cB) "__class__" = some (some (.builtin "object.__class__")))(W5:DL.fm K "TooMany" cB=true)(oC:DL.fN K cC=some (bC,(C_ "NotSquare")))(Xr:bC.contains (Value.type "BaseException")=true)(XQ:bC.contains (Value.type "object")=true)(Xx:W.findIn K (.ref cC) "__getattribute__" = some (some (.builtin "BaseException.__getattribute__")))(Xm:W.findIn K (.ref cC) "__getattr__" = some (none))(Xi:W.findIn K (.ref cC) "__class__" = some (some (.builtin "object.__class__")))(XE:DL.fm K "NotSquare" cC=true)(oD:DL.fN K cD=some (bD,(C_ "NoFraction")))(Xd:bD.contains (Value.type "BaseException")=true)(W6:bD.contains (Value.type "object")=true)(Xy:W.findIn K (.ref cD) "__getattribute__" = some (some (.builtin "BaseException.__getattribute__")))(W9:W.findIn K (.ref cD) "__getattr__" = some (none))(Xt:W.findIn K (.ref cD) "__class__" = some (some (.builtin "object.__class__")))(XU:DL.fm K "NoFraction" cD=true)(oE:DL.fN K cE=some (bE,(C_ "NoOrder")))(Xq:bE.contains (Value.type "BaseException")=true)(Xw:bE.contains (Value.type "object")=true)(Xf:W.findIn K (.ref cE) "__getattribute__" = some (some (.builtin "BaseException.__getattribute__")))(XM:W.findIn K (.ref cE) "__getattr__" = some (none))(Xa:W.findIn K (.ref cE) "__class__" = some (some (.builtin "object.__class__")))(XG:DL.fm K "NoOrder" cE=true)(gg:W.specialIn K (.builtin "object.__class__") "__get__" = some (some (.builtin "getset_descriptor.__get__")))(gt:W.takesIn K (.builtin "object.__class__")=some true)(hL:L=[((C_ "TradeError"),cA,bA),((C_ "TooMany"),cB,bB),((C_ "NotSquare"),cC,bC),((C_ "NoFraction"),cD,bD),((C_ "NoOrder"),cE,bE)])(XV:DL.EA K cE=some nE)(zE:DL.jk K cE nE=true)(WW:W.findIn K (.ref cE) "__setattr__" = some (some (.builtin "object.__setattr__")))(WX:W.findIn K (.ref cE) "at" = some none)(Xg:W.specialIn K (.ref cA) "__getattribute__" = some (some (.builtin "type.__getattribute__")))(Xl:W.readsIn K cA (.type "type")=true)(XB:W.findCls K (.ref cA) (.type "type") "__init__" = some (.val (.builtin "ValueError.__init__")))(iE:W.nsIn K nE "__init__" = some (some (.ref fE)))(XH:W.keepIn K (.ref cE)=true)(lE:K.lookup fE=some ⟨Xz,Xv,.func (W.fnOf "__init__" "NoOrder.__init__" (L2.aU Law.m9) (L2.aN Law.m9) (L2.aF Law.m9) .none Xp W1 Xu W7 LT Xc),W0⟩)(Tm:W.codeIn K LT "NoOrder.__init__" = true)(Ty:W.keepIn K (.ref fE)=true)(XL:W.typeIn K (.ref fE)=some (.type "function"))(eB:W.excIn K cB DL.fO "ValueError.__new__" = true)(eC:W.excIn K cC DL.fO "ValueError.__new__" = true)(Xe:(Value.ref cE::bE).contains (.ref cE)=true)(Xb:(Value.ref cC::bC).contains (.ref cC)=true)(XJ:(Value.ref cB::bB).contains (.ref cB)=true)(WZ:(Value.ref cB::bB).contains (.ref cC)=false)(WY:(Value.ref cB::bB).contains (.ref cE)=false)(W2:(Value.ref cC::bC).contains (.ref cE)=false):∃(LE:Addr)(Z:Addr)(U:Addr)(ST:Addr)(Y:Addr)(IO:List a_)(Id:List a_)(BT:List a_)(KK:List a_)(Cl:List a_),(∀base,XCI P w K mg base "NoOrder" Y "at")/\(XN K "NoOrder" Y)/\(XC K mg "TooMany" Z)/\(XN K "TooMany" Z)/\(XC K mg "NotSquare" U)/\(XN K "NotSquare" U)/\(XA K Y Cl)/\(mg "NoOrder" = some (.ref Y))/\(j5 K Y xA)/\(XA K U BT)/\(mg "NotSquare" = some (.ref U))/\(j5 K U nh)/\(XA K Z Id)/\(mg "TooMany" = some (.ref Z))/\(j5 K Z jZ)/\(gK K U jZ)/\(gK K Y jZ)/\(gK K Y nh):=by
 have qA:=(DL.sE oA W3 Xo Xs Xh Xj gg gt XS)
 have qB:=(DL.sE oB XD W8 Xn W4 Xk gg gt W5)
 have qC:=(DL.sE oC Xr XQ Xx Xm Xi gg gt XE)
 have qD:=(DL.sE oD Xd W6 Xy W9 Xt gg gt XU)
 have qE:=(DL.sE oE Xq Xw Xf XM Xa gg gt XG)
 subst hL;have hN:QfL (·.1) [((C_ "TradeError"),cA,bA),((C_ "TooMany"),cB,bB),((C_ "NotSquare"),cC,bC),((C_ "NoFraction"),cD,bD),((C_ "NoOrder"),cE,bE)]=Law.WC:=rfl;have hf:DL.tT (fun q:Str×Addr×List a_=>DL.CF K q.1 q.2.1 q.2.2) [((C_ "TradeError"),cA,bA),((C_ "TooMany"),cB,bB),((C_ "NotSquare"),cC,bC),((C_ "NoFraction"),cD,bD),((C_ "NoOrder"),cE,bE)]:=⟨qA,qB,qC,qD,qE,trivial⟩
 exact⟨cA,cB,cC,cD,cE,bA,bB,bC,bD,bE,DL.Wx KX G aE XH zE oE (DL.LB zE oE WW WX) iE (L2.db lE Tm Ty) XL Law.NU (Law.O5 (L2.db lE Tm Ty) (DL.LB zE oE WW WX) (W.mg_of KX G aA) ⟨Xg,Xl,XB⟩),qE.xn,DL.LA KX G aB eB,qB.xn,DL.LA KX G aC eC,qC.xn,qE.xa,W.mg_of KX G aE,DL.D9 [((C_ "NoOrder"),cE,bE)] (by intro q hq;simp only[t_,V_,or_false]at hq;rcases hq with rfl <;> first|exact⟨qE,Xe⟩) (fun nm h=>by have h2:=Qaq.mp h;simp only[t_,V_,or_false]at h2;rcases h2 with rfl <;> simp),qC.xa,W.mg_of KX G aC,DL.D9 [((C_ "NotSquare"),cC,bC)] (by intro q hq;simp only[t_,V_,or_false]at hq;rcases hq with rfl <;> first|exact⟨qC,Xb⟩) (fun nm h=>by have h2:=Qaq.mp h;simp only[t_,V_,or_false]at h2;rcases h2 with rfl <;> simp),qB.xa,W.mg_of KX G aB,DL.D9 [((C_ "TooMany"),cB,bB)] (by intro q hq;simp only[t_,V_,or_false]at hq;rcases hq with rfl <;> first|exact⟨qB,XJ⟩) (fun nm h=>by have h2:=Qaq.mp h;simp only[t_,V_,or_false]at h2;rcases h2 with rfl <;> simp),DL.Ea [((C_ "TooMany"),cB,bB)] (by intro q hq;simp only[t_,V_,or_false]at hq;rcases hq with rfl <;> first|exact⟨qB,WZ⟩) (fun nm h=>by have h2:=Qaq.mp h;simp only[t_,V_,or_false]at h2;rcases h2 with rfl <;> simp),DL.Ea [((C_ "TooMany"),cB,bB)] (by intro q hq;simp only[t_,V_,or_false]at hq;rcases hq with rfl <;> first|exact⟨qB,WY⟩) (fun nm h=>by have h2:=Qaq.mp h;simp only[t_,V_,or_false]at h2;rcases h2 with rfl <;> simp),DL.Ea [((C_ "NotSquare"),cC,bC)] (by intro q hq;simp only[t_,V_,or_false]at hq;rcases hq with rfl <;> first|exact⟨qC,W2⟩) (fun nm h=>by have h2:=Qaq.mp h;simp only[t_,V_,or_false]at h2;rcases h2 with rfl <;> simp)⟩
end Law
namespace Law
open PySem PySem.Spec PyProof.Rows L2 DL
theorem VA{K:W.Frag}{h:Heap}{mg:Str->Option a_}(KX:K.In h)(G:h.Ns N_ mg){U Y Z BT YV:Addr}{Xm Yo:Addr}{ZE:Nat}{Zv Zx Ze Zu Xa Zi Zq:a_}{Zk Zl Zg:Option Addr}{Y4 Y7:Array (Option a_)}{Xl Yu:Addr}{ZA:Nat}{Zm Zn Y1 Zp W8 Zo Zs:a_}{Zw Zr Zh:Option Addr}{Zf Y0:Array (Option a_)}{ST:Addr}{Yb Yj X1 Yt W1 Yi:a_}{Yz Yk:Option Addr}{XY:Array (Option a_)}{LE:Addr}{Yp Ys XZ Ya W2 Yw:a_}{Yd Yc:Option Addr}{X7:Array (Option a_)}{Ty:Addr}{YM YO YC YJ W4 YS:a_}{YL YH:Option Addr}{YA:Array (Option a_)}{KK:Addr}{XU XS XE XM WZ X2:a_}{X8 X3:Option Addr}{Xv:Array (Option a_)}{Id:Addr}{XH Xz Xd Xw WY Xq:a_}{Xn Xx:Option Addr}{Xg:Array (Option a_)}{IO:Addr}{XG Xy Xj XL WW XJ:a_}{XB Xu:Option Addr}{Xh:Array (Option a_)}{LT:Addr}{Yn Yy X6 Ye W0 Yv:a_}{Yq Yf:Option Addr}{XQ:Array (Option a_)}{Cl:Addr}{Xk Xi W5 Xf Tm W9:a_}{Xc Xe:Option Addr}{W6:Array (Option a_)}(a_ByRings:W.nsIn K N_ "ByRings" = some (some (.ref U)))(Z2:W.nsIn K N_ "ByOrder" = some (some (.ref Y)))(ZJ:W.nsIn K N_ "ByEating" = some (some (.ref Z)))(a_ByLot:W.nsIn K N_ "ByLot" = some (some (.ref BT)))(a_Rule:W.nsIn K N_ "Rule" = some (some (.ref YV)))(Z6:DL.iO K U (C_ "ByRings")=true)(ZT:DL.fm K "ByRings" U=true)(ZW:W.plainGet K U Qc9=true)(Z5:W.hasDictIn K U=true)(Z9:W.plainOver K U=true)(ZY:W.findIn K (.ref U) "__setattr__" = some (some (.builtin "object.__setattr__")))(Z1:DL.iO K Y (C_ "ByOrder")=true)(u_ByOrder:DL.fm K "ByOrder" Y=true)(p_ByOrder:W.plainGet K Y Qc9=true)(d_ByOrder:W.hasDictIn K Y=true)(Z8:W.plainOver K Y=true)(ZS:W.findIn K (.ref Y) "__setattr__" = some (some (.builtin "object.__setattr__")))(ZG:DL.iO K Z (C_ "ByEating")=true)(ZK:DL.fm K "ByEating" Z=true)(ZP:W.plainGet K Z Qc9=true)(ZL:W.hasDictIn K Z=true)(ZO:W.plainOver K Z=true)(ZQ:W.findIn K (.ref Z) "__setattr__" = some (some (.builtin "object.__setattr__")))(x_ByLot:DL.iO K BT (C_ "ByLot")=true)(u_ByLot:DL.fm K "ByLot" BT=true)(p_ByLot:W.plainGet K BT Qc9=true)(d_ByLot:W.hasDictIn K BT=true)(v_ByLot:W.plainOver K BT=true)(s_ByLot:W.findIn K (.ref BT) "__setattr__" = some (some (.builtin "object.__setattr__")))(YU:W.findIn K (.ref U) "order" = some none)(YW:W.findIn K (.ref Y) "order" = some none)(Y5:W.findIn K (.ref U) "owns" = some none)(m_ByRings:W.makesIn K U=true)(Z0:W.findIn K (.ref U) "__init__" = some (some (.ref Xm)))(Z4:W.isFn K (.ref Xm)=true)(k_ByRings:W.keepIn K (.ref U)=true)(ZB:K.lookup Xm=some ⟨Zv,Zk,.func (W.fnOf "__init__" "ByRings.__init__" (L2.aU Law.m5) (L2.aN Law.m5) (L2.aF Law.m5) (.ref Yo) Zx Ze Zu Zl Xa Zi),Y4⟩)(ZF:K.lookup Yo=some ⟨Zq,Zg,.seq [Value.none].toArray ZE,Y7⟩)(Zt:W.codeIn K Xa "ByRings.__init__" = true)(Z3:W.makesIn K Y=true)(ZX:W.findIn K (.ref Y) "__init__" = some (some (.ref Xl)))(ZV:W.isFn K (.ref Xl)=true)(k_ByOrder:W.keepIn K (.ref Y)=true)(ZD:K.lookup Xl=some ⟨Zm,Zw,.func (W.fnOf "__init__" "ByOrder.__init__" (L2.aU Law.m6) (L2.aN Law.m6) (L2.aF Law.m6) (.ref Yu) Zn Y1 Zp Zr W8 Zo),Zf⟩)(ZC:K.lookup Yu=some ⟨Zs,Zh,.seq [Value.none].toArray ZA,Y0⟩)(Zj:W.codeIn K W8 "ByOrder.__init__" = true)(ZM:W.makesIn K Z=true)(ZN:W.findIn K (.ref Z) "__init__" = some (some (.builtin "object.__init__")))(ZI:W.keepIn K (.ref Z)=true)(m_ByLot:W.makesIn K BT=true)(i_ByLot:W.findIn K (.ref BT) "__init__" = some (some (.builtin "object.__init__")))(k_ByLot:W.keepIn K (.ref BT)=true)(Za:W.findIn K (.ref U) "sure" = some (some (.ref ST)))(Zd:W.isFn K (.ref ST)=true)(YF:K.lookup ST=some ⟨Yb,Yz,.func (W.fnOf "sure" "ByRings.sure" (L2.aU Law.nR) (L2.aN Law.nR) (L2.aF Law.nR) .none Yj X1 Yt Yk W1 Yi),XY⟩)(Yl:W.codeIn K W1 "ByRings.sure" = true)(Yx:W.keepIn K (.ref ST)=true)(Zc:W.findIn K (.ref Y) "sure" = some (some (.ref LE)))(Zb:W.isFn K (.ref LE)=true)(YG:K.lookup LE=some ⟨Yp,Yd,.func (W.fnOf "sure" "ByOrder.sure" (L2.aU Law.nQ) (L2.aN Law.nQ) (L2.aF Law.nQ) .none Ys XZ Ya Yc W2 Yw),X7⟩)(X9:W.codeIn K W2 "ByOrder.sure" = true)(Yg:W.keepIn K (.ref LE)=true)(Zy:W.findIn K (.ref BT) "sure" = some (some (.ref Ty)))(Zz:W.isFn K (.ref Ty)=true)(YY:K.lookup Ty=some ⟨YM,YL,.func (W.fnOf "sure" "Rule.sure" (L2.aU Law.nL) (L2.aN Law.nL) (L2.aF Law.nL) .none YO YC YJ YH W4 YS),YA⟩)(YQ:W.codeIn K W4 "Rule.sure" = true)(YI:W.keepIn K (.ref Ty)=true)(YZ:W.findIn K (.ref Z) "sure" = some (some (.ref KK)))(YX:W.isFn K (.ref KK)=true)(Yr:K.lookup KK=some ⟨XU,X8,.func (W.fnOf "sure" "Rule.sure" (L2.aU Law.nN) (L2.aN Law.nN) (L2.aF Law.nN) .none XS XE XM X3 WZ X2),Xv⟩)(X5:W.codeIn K WZ "Rule.sure" = true)(X0:W.keepIn K (.ref KK)=true)(YR:W.findIn K (.ref U) "shares" = some (some (.ref Id)))(YT:W.isFn K (.ref Id)=true)(XV:K.lookup Id=some ⟨XH,Xn,.func (W.fnOf "shares" "Rule.shares" (L2.aU Law.nT) (L2.aN Law.nT) (L2.aF Law.nT) .none Xz Xd Xw Xx WY Xq),Xg⟩)(Xo:W.codeIn K WY "Rule.shares" = true)(Xs:W.keepIn K (.ref Id)=true)(YN:W.findIn K (.ref Y) "shares" = some (some (.ref IO)))(YK:W.isFn K (.ref IO)=true)(X4:K.lookup IO=some ⟨XG,XB,.func (W.fnOf "shares" "Rule.shares" (L2.aU Law.nS) (L2.aN Law.nS) (L2.aF Law.nS) .none Xy Xj XL Xu WW XJ),Xh⟩)(XD:W.codeIn K WW "Rule.shares" = true)(Xp:W.keepIn K (.ref IO)=true)(Y3:W.findIn K (.ref BT) "shares" = some (some (.ref LT)))(Y6:W.isFn K (.ref LT)=true)(YD:K.lookup LT=some ⟨Yn,Yq,.func (W.fnOf "shares" "ByLot.shares" (L2.aU Law.nP) (L2.aN Law.nP) (L2.aF Law.nP) .none Yy X6 Ye Yf W0 Yv),XQ⟩)(Yh:W.codeIn K W0 "ByLot.shares" = true)(Ym:W.keepIn K (.ref LT)=true)(YE:W.findIn K (.ref Z) "shares" = some (some (.ref Cl)))(YB:W.isFn K (.ref Cl)=true)(Xt:K.lookup Cl=some ⟨Xk,Xc,.func (W.fnOf "shares" "ByEating.shares" (L2.aU Law.nX) (L2.aN Law.nX) (L2.aF Law.nX) .none Xi W5 Xf Xe Tm W9),W6⟩)(W7:W.codeIn K Tm "ByEating.shares" = true)(Xb:W.keepIn K (.ref Cl)=true)(gg:W.specialIn K (.builtin "object.__class__") "__get__" = some (some (.builtin "getset_descriptor.__get__")))(gt:W.takesIn K (.builtin "object.__class__")=some true)(Z7:W.findIn K (.ref U) "__class__" = some (some (.builtin "object.__class__")))(ZR:W.mroIn K U (.type "object")=some true)(ZZ:W.findIn K (.ref Y) "__class__" = some (some (.builtin "object.__class__")))(ZU:W.mroIn K Y (.type "object")=some true)(w_ByEating:W.findIn K (.ref Z) "__class__" = some (some (.builtin "object.__class__")))(r_ByEating:W.mroIn K Z (.type "object")=some true)(w_ByLot:W.findIn K (.ref BT) "__class__" = some (some (.builtin "object.__class__")))(r_ByLot:W.mroIn K BT (.type "object")=some true)(Y9:W.kitOne K (.ref U) (.ref YV)=some true)(Y2:W.kitOne K (.ref Y) (.ref YV)=some true):∃(C_Rule:Addr)(ZH:Addr)(C_ByLot:Addr),(DL.gD K "order" Law.fK)/\(DL.gD K "owns" Law.jU)/\(DL.MakeAtD K mg "ByRings" "ByRings" "ByRings.__init__" Law.m5 [Value.none])/\(DL.MakeAtD K mg "ByOrder" "ByOrder" "ByOrder.__init__" Law.m6 [Value.none])/\(DL.MkP K mg "ByEating" "ByEating" ZH)/\(DL.MkP K mg "ByLot" "ByLot" C_ByLot)/\(DL.MethAt K "ByRings" "sure" "ByRings.sure" Law.nR)/\(DL.MethAt K "ByOrder" "sure" "ByOrder.sure" Law.nQ)/\(DL.MethAt K "ByLot" "sure" "Rule.sure" Law.nL)/\(DL.MethAt K "ByEating" "sure" "Rule.sure" Law.nN)/\(DL.MethAt K "ByRings" "shares" "Rule.shares" Law.nT)/\(DL.MethAt K "ByOrder" "shares" "Rule.shares" Law.nS)/\(DL.MethAt K "ByLot" "shares" "ByLot.shares" Law.nP)/\(DL.MethAt K "ByEating" "shares" "ByEating.shares" Law.nX)/\(mg "Rule" = some (.ref C_Rule))/\(DL.qm K (.ref C_Rule) Law.nH):=by
 have WX:=DL.zX Z6 ZT ZW Z5 Z9 ZY;have W3:=DL.zX Z1 u_ByOrder p_ByOrder d_ByOrder Z8 ZS;have Xr:=DL.zX ZG ZK ZP ZL ZO ZQ;have Y8:=DL.zX x_ByLot u_ByLot p_ByLot d_ByLot v_ByLot s_ByLot;exact⟨YV,Z,BT,DL.LC [((C_ "ByRings"),U),((C_ "ByOrder"),Y)] (by intro q hq;simp only[t_,V_,or_false]at hq;rcases hq with rfl|rfl <;> first|exact⟨WX,YU⟩|exact⟨W3,YW⟩) (fun nm h=>by
   have h2:=Qaq.mp h;simp only[t_,V_,or_false]at h2;rcases h2 with rfl|rfl <;> simp),DL.LC [((C_ "ByRings"),U)] (by intro q hq;simp only[t_,V_,or_false]at hq;rcases hq with rfl <;> first|exact⟨WX,Y5⟩) (fun nm h=>by
   have h2:=Qaq.mp h;simp only[t_,V_,or_false]at h2;rcases h2 with rfl <;> simp),DL.E7 WX (W.mg_of KX G a_ByRings) m_ByRings Z0 Z4 k_ByRings ZB ZF Zt,DL.E7 W3 (W.mg_of KX G Z2) Z3 ZX ZV k_ByOrder ZD ZC Zj,⟨W.mg_of KX G ZJ,Xr.xn,ZM,ZN,ZI⟩,⟨W.mg_of KX G a_ByLot,Y8.xn,m_ByLot,i_ByLot,k_ByLot⟩,DL.nq WX Za Zd (L2.db YF Yl Yx),DL.nq W3 Zc Zb (L2.db YG X9 Yg),DL.nq Y8 Zy Zz (L2.db YY YQ YI),DL.nq Xr YZ YX (L2.db Yr X5 X0),DL.nq WX YR YT (L2.db XV Xo Xs),DL.nq W3 YN YK (L2.db X4 XD Xp),DL.nq Y8 Y3 Y6 (L2.db YD Yh Ym),DL.nq Xr YE YB (L2.db Xt W7 Xb),W.mg_of KX G a_Rule,DL.VD gg gt [((C_ "ByRings"),U,true),((C_ "ByOrder"),Y,true)] (by intro q hq;simp only[t_,V_,or_false]at hq;rcases hq with rfl|rfl <;> first|exact⟨WX,Z7,ZR,Y9⟩|exact⟨W3,ZZ,ZU,Y2⟩) (fun nm b h=>by
   unfold Law.nH at h;split at h
   .cases h;rename_i z;have z:=Qaq.mp z;simp only[t_,V_,or_false]at z;rcases z with rfl|rfl <;> simp
   .split at h
    .cases h;rename_i z;simp at z
    .cases h)⟩
end Law
abbrev P0:=Qef.prog
namespace PySem.W.Fast
def tw1297262691458196775:=0
def tw270837284533791061:=0
def tw10320786133282473907:=0
def tw16422613288724869712:=0
def tw10087945413067304966:=0
def tw16558108670002551870:=0
def tw8439331457633181896:=0
def tw2127912482976967916:=0
def tw5569584094432595579:=0
def tw12684529066905359627:=0
def tw7246891163606403615:=0
def tw7243226124127099320:=0
def tw9706042931423224477:=0
def tw13681869660538626219:=0
def tw4570337625828198777:=0
def tw9111650259997572453:=0
def tw1049281190670935343:=0
def tw1221494647864112601:=0
def tw14283919625149476292:=0
def tw11556309695398512387:=0
def tw2355481325966235103:=0
def tw8691198750685396275:=0
def tw7376049230299569905:=0
def tw14480174020175037125:=0
def tw16048947969299195620:=0
def tw13777275792930539833:=0
def tw9370718591856447297:=0
def tw644046258992536600:=0
def tw12517988282447899926:=0
def tw3734330180795290943:=0
def tw16418439726488955155:=0
def tw16625326215441477944:=0
def tw12113123086232762313:=0
def tw12578799062286379253:=0
def tw4332129102928235896:=0
def tw3871145802507427486:=0
def tw5023220310336775085:=0
def tw1312389368573921015:=0
def tw11425404704778500570:=0
def tw7438305745908785131:=0
def tw15451872280825244740:=0
def tw3931178293731601651:=0
def tw3605615312617910314:=0
def tw11060525057772977448:=0
def tw5612037437871227449:=0
def tw6204656910267759464:=0
def tw2147126656718792494:=0
def tw14647672621588618823:=0
def tw10071898986562088110:=0
def tw16543099791722886865:=0
def tw13842641475640057301:=0
def tw14817902672797511509:=0
def tw6451601106700952521:=0
def tw12765786796533405261:=0
def tw3499627893243515051:=0
def tw2202517238754399652:=0
def tw2462453450626415644:=0
def tw6769224944408444751:=0
def tw8589730675192050799:=0
def tw11532253015184154708:=0
def tw2275440168275137737:=0
def tw16808235662820962214:=0
def tw258328180877538197:=0
def tw2884901184942519990:=0
def tw3989800701881693510:=0
def tw15537417288003631633:=0
def tw10033296401141856514:=0
def tw397055387268996539:=0
def tw5513247712531845451:=0
def tw11654542662889177803:=0
def tw3282383728883825519:=0
def tw15514276010225639651:=0
def tw2776892195931779990:=0
def tw5607677000560074626:=0
def tw3279498321186418845:=0
def tw753507399796370476:=0
def tw7494514376229676026:=0
def tw14952747527593589854:=0
def tw5959155743692543153:=0
def tw11619454298791433835:=0
def tw14066946153702622261:=0
def tw420608370657314050:=0
def tw10679566401370120593:=0
def tw2215299620421799539:=0
def tw10369638435230695971:=0
def tw6277706408432467783:=0
def tw5981366048462392838:=0
def tw1336665701784875340:=0
def tw6134427287391210992:=0
def tw4581798871393333442:=0
def tw1346012017693520662:=0
def tw1438080825362471189:=0
def tw3425342762943756379:=0
def tw14100361319618280628:=0
def tw9796823476565774141:=0
def tw13579089530700338988:=0
def tw17932200231235338393:=0
def tw3872309200155127683:=0
def tw16245374601142758951:=0
def tw11535229639977815561:=0
def tw16431332587010451103:=0
def tw4468205753941908778:=0
def tw13395416514454622819:=0
def tw16820709736421437045:=0
def tw1951611516602545318:=0
def tw6047743781423863150:=0
def tw17828646229999719235:=0
def tw12726516664630192155:=0
def tw2664312443413256103:=0
def tw9208055564297192089:=0
def tw2808679825853214991:=0
def tw11670122054996277552:=0
def tw11153830074054705028:=0
def tw13850874070472913134:=0
def tw11754146378075100081:=0
def tw18376612287017229229:=0
def tw5973803420729056000:=0
def tw5053016391053249329:=0
def tw3079857381066942434:=0
def tw9180398632535608695:=0
def tw14763680840504929439:=0
def tw5757867658687223515:=0
def tw9381137812363510604:=0
def tw7175533858879203766:=0
def tw1007462774061637200:=0
def tw4166051690853341596:=0
def tw4867864882455019618:=0
def tw275540911533221352:=0
def tw8674563487857485189:=0
def tw9998865086389577556:=0
def tw13998645380818377714:=0
def tw14634353072600384258:=0
def tw3998840799161214487:=0
def tw16932684942158942239:=0
def tw7515777522097168408:=0
def tw11424092563792859387:=0
def tw1919466704502771929:=0
def tw9244866812510988572:=0
def tw16504255800487877859:=0
def tw2208211803623074993:=0
def tw3389266681269469708:=0
def tw3943550049130639179:=0
def tw14685391315456872534:=0
def tw12107351038612713057:=0
def tw1050699040246513822:=0
def tw16575927220626735646:=0
def tw16557723131934117048:=0
def tw6914266361729712461:=0
def tw16402659997647086223:=0
def tw10036847464076785268:=0
def tw5958590509279636005:=0
def tw14614340503160684941:=0
def tw273689633418067433:=0
def tw10667011242344044746:=0
def tw4038942813057262375:=0
def tw14848889990358237757:=0
def tw13564532963335326909:=0
def tw6348557751338561076:=0
def tw17111746914603160758:=0
def tw15256725054627497406:=0
def tw6518278189070998135:=0
def tw2354890965512765412:=0
def tw13463073187947496729:=0
def tw17411670253047724489:=0
def tw4941257277804735379:=0
def tw17709380362129855817:=0
def tw10545390943106185698:=0
def tw6847584275667486115:=0
end PySem.W.Fast
set_option maxRecDepth 100000 in
set_option maxHeartbeats 0 in
theorem PySem.Challenge.cw_ringtrade_k40_rules_holds : PySem.Challenge.rw_ringtrade_k40_rules.Holds := by
 w_on; o_law; k_head; (case hw=>w_witness2)
 k_fill
 refine DL.VB (l:=PySem.Challenge.rw_ringtrade_k40_rules) (k:=13) (x := "_law_script") (F:=Law.tW) rfl rfl ⟨rfl,by decide,by decide,rfl⟩ (fun w h Y=>PySem.W.kIn_of Y) Law.main ?C
 intro w mg fa h KX G hmg
 have T:Law.Txt (L2.bQ KX) mg:=by
  dsimp only [L2.bQ]
  refine ⟨?vm,?vn,?vo,?vp,?vq,?vr,?vs,?vt,?vu,?vv,?vw,?vx,?vy⟩
  case vm|vn|vo|vp|vq|vr|vs|vt|vu|vv=>(refine' PySem.W.mg_none_of KX G ?_; k_is)
  case vw=>(refine' DL.Wt KX G ?z; case z=>k_is)
  case vx=>(refine' DL.LF KX G ?vz ?v0; (case vz=>k_is); (case v0=>k_is))
  case vy=>(refine' DL.LF KX G ?v1 ?v2; (case v1=>k_is); (case v2=>k_is))
 obtain ⟨v3,ue,ud,v4,uc,v5,ur,ut,v6,uu,v7,v8,v9,wa,wb,wc,wd,we,wf,wg,wh,wi,wj,wk,wl,wm,wn,wo⟩:∃ (v3:Addr) (ue:Addr) (ud:Addr) (v4:Addr) (uc:Addr) (v5:List Value) (ur:List Value) (ut:List Value) (v6:List Value) (uu:List Value),(∀ base,DL.XCI PySem.Challenge.rw_ringtrade_k40_rules.prog w (L2.bQ KX) mg base "NoOrder" uc "at")∧(DL.XN (L2.bQ KX) "NoOrder" uc)∧(DL.XC (L2.bQ KX) mg "TooMany" ue)∧(DL.XN (L2.bQ KX) "TooMany" ue)∧(DL.XC (L2.bQ KX) mg "NotSquare" ud)∧(DL.XN (L2.bQ KX) "NotSquare" ud)∧(DL.XA (L2.bQ KX) uc uu)∧(mg "NoOrder" = some (.ref uc))∧(DL.j5 (L2.bQ KX) uc Law.xA)∧(DL.XA (L2.bQ KX) ud ut)∧(mg "NotSquare" = some (.ref ud))∧(DL.j5 (L2.bQ KX) ud Law.nh)∧(DL.XA (L2.bQ KX) ue ur)∧(mg "TooMany" = some (.ref ue))∧(DL.j5 (L2.bQ KX) ue Law.jZ)∧(DL.gK (L2.bQ KX) ud Law.jZ)∧(DL.gK (L2.bQ KX) uc Law.jZ)∧(DL.gK (L2.bQ KX) uc Law.nh):=by
  dsimp only [L2.bQ]
  refine' Law.Ey KX G ?wp ?wq ?wr ?ws ?wt ?wu ?wv ?ww ?wx ?wy ?wz ?w0 ?w1 ?w2 ?w3 ?w4 ?w5 ?w6 ?w7 ?w8 ?w9 ?xa ?xb ?xc ?xd ?xe ?xf ?xg ?xh ?xi ?xj ?xk ?xl ?xm ?xn ?xo ?xp ?xq ?xr ?xs ?gg ?gt ?hL ?xt ?xu ?xv ?xw ?xx ?xy ?xz ?x0 ?x1 ?x2 ?x3 ?x4 ?x5 ?x6 ?x7 ?x8 ?x9 ?ya ?yb ?yc ?yd
  case wp|wq|wr|ws|wt=>k_is
  case wu=>exact rfl
  case wv|ww=>decide +kernel
  case wx|wy|wz=>k_is
  case w0=>kernel_rfl
  case w1=>exact rfl
  case w2|w3=>decide +kernel
  case w4|w5|w6=>k_is
  case w7=>kernel_rfl
  case w8=>exact rfl
  case w9|xa=>decide +kernel
  case xb|xc|xd=>k_is
  case xe=>kernel_rfl
  case xf=>exact rfl
  case xg|xh=>decide +kernel
  case xi|xj|xk=>k_is
  case xl=>kernel_rfl
  case xm=>exact rfl
  case xn|xo=>decide +kernel
  case xp|xq|xr=>k_is
  case xs=>kernel_rfl
  case gg|gt=>k_is
  case hL|xt=>exact rfl
  case xu=>kernel_rfl
  case xv|xw|xx=>k_is
  case xy|xz=>kernel_rfl
  case x0|x1|x2|x3|x4|x5=>k_is
  case x6|x7=>kernel_rfl
  case x8|x9|ya|yb|yc|yd=>decide +kernel
 obtain ⟨un,uv,uw,ub,ug,ux,uy,ye,yf,uz,u0,yg,yh,u1,u2,u3,u4,yi,yj⟩:∃ (un:Addr) (uv:Addr) (uw:Addr),(DL.gD (L2.bQ KX) "order" Law.fK)∧(DL.gD (L2.bQ KX) "owns" Law.jU)∧(DL.MakeAtD (L2.bQ KX) mg "ByRings" "ByRings" "ByRings.__init__" Law.m5 [Value.none])∧(DL.MakeAtD (L2.bQ KX) mg "ByOrder" "ByOrder" "ByOrder.__init__" Law.m6 [Value.none])∧(DL.MkP (L2.bQ KX) mg "ByEating" "ByEating" uv)∧(DL.MkP (L2.bQ KX) mg "ByLot" "ByLot" uw)∧(DL.MethAt (L2.bQ KX) "ByRings" "sure" "ByRings.sure" Law.nR)∧(DL.MethAt (L2.bQ KX) "ByOrder" "sure" "ByOrder.sure" Law.nQ)∧(DL.MethAt (L2.bQ KX) "ByLot" "sure" "Rule.sure" Law.nL)∧(DL.MethAt (L2.bQ KX) "ByEating" "sure" "Rule.sure" Law.nN)∧(DL.MethAt (L2.bQ KX) "ByRings" "shares" "Rule.shares" Law.nT)∧(DL.MethAt (L2.bQ KX) "ByOrder" "shares" "Rule.shares" Law.nS)∧(DL.MethAt (L2.bQ KX) "ByLot" "shares" "ByLot.shares" Law.nP)∧(DL.MethAt (L2.bQ KX) "ByEating" "shares" "ByEating.shares" Law.nX)∧(mg "Rule" = some (.ref un))∧(DL.qm (L2.bQ KX) (.ref un) Law.nH):=by
  dsimp only [L2.bQ]
  refine' Law.VA KX G ?yk ?yl ?ym ?yn ?yo ?yp ?yq ?yr ?ys ?yt ?yu ?yv ?yw ?yx ?yy ?yz ?y0 ?y1 ?y2 ?y3 ?y4 ?y5 ?y6 ?y7 ?y8 ?y9 ?za ?zb ?zc ?zd ?ze ?zf ?zg ?zh ?zi ?zj ?zk ?zl ?zm ?zn ?zo ?zp ?zq ?zr ?zs ?zt ?zu ?zv ?zw ?zx ?zy ?zz ?z0 ?z1 ?z2 ?z3 ?z4 ?z5 ?z6 ?z7 ?z8 ?z9 ?aa ?ab ?ac ?ad ?ae ?af ?ag ?ah ?ai ?aj ?ak ?al ?am ?an ?ao ?ap ?aq ?ar ?au ?av ?aw ?ax ?ay ?az ?a0 ?a1 ?a2 ?a3 ?a4 ?a5 ?gg ?gt ?a6 ?a7 ?a8 ?a9 ?ba ?bb ?bc ?bd ?be ?bf
  case yk|yl|ym|yn|yo=>k_is
  case yp|yq|yr|ys|yt=>kernel_rfl
  case yu=>k_is
  case yv|yw|yx|yy|yz=>kernel_rfl
  case y0=>k_is
  case y1|y2|y3|y4|y5=>kernel_rfl
  case y6=>k_is
  case y7|y8|y9|za|zb=>kernel_rfl
  case zc|zd|ze|zf=>k_is
  case zg=>kernel_rfl
  case zh=>k_is
  case zi=>kernel_rfl
  case zj|zk|zl|zm=>k_is
  case zn=>kernel_rfl
  case zo=>k_is
  case zp=>kernel_rfl
  case zq|zr|zs|zt=>k_is
  case zu=>kernel_rfl
  case zv|zw=>k_is
  case zx=>kernel_rfl
  case zy|zz|z0=>k_is
  case z1=>kernel_rfl
  case z2|z3|z4|z5=>k_is
  case z6=>kernel_rfl
  case z7|z8|z9|aa=>k_is
  case ab=>kernel_rfl
  case ac|ad|ae|af=>k_is
  case ag=>kernel_rfl
  case ah|ai|aj|ak=>k_is
  case al=>kernel_rfl
  case am|an|ao|ap=>k_is
  case aq=>kernel_rfl
  case ar|au|av|aw=>k_is
  case ax=>kernel_rfl
  case ay|az|a0|a1=>k_is
  case a2=>kernel_rfl
  case a3|a4|a5|gg|gt|a6=>k_is
  case a7=>kernel_rfl
  case a8=>k_is
  case a9=>kernel_rfl
  case ba=>k_is
  case bb=>kernel_rfl
  case bc=>k_is
  case bd|be|bf=>kernel_rfl
 obtain ⟨u5,u6,bg,bh,uk,u7,bi,bj,bk,bl,uh,bm,bn,bo,bp,ul,ua,ui,bq,br,bs,bt,bu,bv,bw,bx,bz,b0,b1,b2,b3,b4,b5,b6,b7,b8,b9,ca,cb,cc,cd,ce,cf,cg,ch,ci⟩:DL.DefAt (L2.bQ KX) mg "_law_cell" Law.Cz∧DL.DefAt (L2.bQ KX) mg "_law_row" Law.Cd∧DL.DefAt (L2.bQ KX) mg "_law_wishes" Law.ss∧DL.DefAt (L2.bQ KX) mg "_law_owns" Law.CB∧DL.DefAt (L2.bQ KX) mg "copied" Law.m7∧DL.DefAt (L2.bQ KX) mg "is_whole" Law.B1∧DL.DefAt (L2.bQ KX) mg "is_below" Law.B0∧DL.DefAt (L2.bQ KX) mg "first_wrong" Law.CP∧DL.DefAt (L2.bQ KX) mg "are_unlike" Law.CH∧DL.DefAt (L2.bQ KX) mg "has_each_once" Law.C8∧DL.DefAt (L2.bQ KX) mg "best_left" Law.sk∧DL.DefAt (L2.bQ KX) mg "owner_left" Law.CM∧DL.DefAt (L2.bQ KX) mg "hand_pointed_at" Law.DM∧DL.DefAt (L2.bQ KX) mg "ring_from" Law.CD∧DL.DefAt (L2.bQ KX) mg "rings_of_round" Law.oj∧DL.DefAt (L2.bQ KX) mg "got_in" Law.BN∧DL.DefAt (L2.bQ KX) mg "things_in" Law.Ci∧DL.DefAt (L2.bQ KX) mg "dealing_of" Law.rW∧DL.DefAt (L2.bQ KX) mg "greatest_divisor" Law.DK∧DL.DefAt (L2.bQ KX) mg "fraction" Law.BZ∧DL.DefAt (L2.bQ KX) mg "shares_in" Law.nY∧DL.DefAt (L2.bQ KX) mg "refuse_too_many_for_lots" Law.D3∧DL.DefAt (L2.bQ KX) mg "refuse_too_many_for_lots" Law.D5∧DL.DefAt (L2.bQ KX) mg "all_orders" Law.CG∧DL.DefAt (L2.bQ KX) mg "lot" Law.qL∧DL.DefAt (L2.bQ KX) mg "lot" Law.Bz∧DL.DefAt (L2.bQ KX) mg "is_square" Law.CC∧DL.DefAt (L2.bQ KX) mg "refuse_unless_square" Law.DN∧DL.DefAt (L2.bQ KX) mg "refuse_unless_square" Law.D6∧DL.DefAt (L2.bQ KX) mg "less" Law.A4∧DL.DefAt (L2.bQ KX) mg "least" Law.By∧DL.DefAt (L2.bQ KX) mg "times" Law.BB∧DL.DefAt (L2.bQ KX) mg "time_until_one_is_gone" Law.sD∧DL.DefAt (L2.bQ KX) mg "minus" Law.BA∧DL.DefAt (L2.bQ KX) mg "left_after" Law.CK∧DL.DefAt (L2.bQ KX) mg "not_gone" Law.B2∧DL.DefAt (L2.bQ KX) mg "meals_of" Law.n9∧DL.DefAt (L2.bQ KX) mg "plus" Law.AX∧DL.DefAt (L2.bQ KX) mg "log_of" Law.BO∧DL.DefAt (L2.bQ KX) mg "shares_of" Law.Cg∧DL.DefAt (L2.bQ KX) mg "eaten" Law.re∧DL.DefAt (L2.bQ KX) mg "eaten" Law.BY∧DL.DefAt (L2.bQ KX) mg "_law_refused" Law.Dl∧DL.DefAt (L2.bQ KX) mg "_law_lots" Law.CA∧DL.DefAt (L2.bQ KX) mg "_law_sure" Law.sj∧DL.DefAt (L2.bQ KX) mg "law" Law.AC:=by
  dsimp only [L2.bQ]
  refine ⟨?_,?_,?_,?_,?_,?_,?_,?_,?_,?_,?_,?_,?_,?_,?_,?_,?_,?_,?_,?_,?_,?_,?_,?_,?_,?_,?_,?_,?_,?_,?_,?_,?_,?_,?_,?_,?_,?_,?_,?_,?_,?_,?_,?_,?_,?_⟩ <;> (refine' DL.VC KX G ?a ?l ?c ?k; (case a | l | c | k=>k_is))
 have cj:DL.DefAtD (L2.bQ KX) mg "order_of" Law.B3 [Value.none]:=by
  dsimp only [L2.bQ]
  refine' DL.nk KX G ?a ?l ?t ?c ?k
  case a|l|t|c|k=>k_is
 have ck:DL.DefAtD (L2.bQ KX) mg "order_of" Law.CL [Value.none]:=by
  dsimp only [L2.bQ]
  refine' DL.nk KX G ?a ?l ?t ?c ?k
  case a|l|t|c|k=>k_is
 have cl:DL.DefAtD (L2.bQ KX) mg "rounds" Law.nU [Value.none]:=by
  dsimp only [L2.bQ]
  refine' DL.nk KX G ?a ?l ?t ?c ?k
  case a|l|t|c|k=>k_is
 have cm:DL.DefAtD (L2.bQ KX) mg "rounds" Law.B4 [Value.none]:=by
  dsimp only [L2.bQ]
  refine' DL.nk KX G ?a ?l ?t ?c ?k
  case a|l|t|c|k=>k_is
 have u8:DL.DefAtD (L2.bQ KX) mg "by_rings" Law.xE [Value.none]:=by
  dsimp only [L2.bQ]
  refine' DL.nk KX G ?a ?l ?t ?c ?k
  case a|l|t|c|k=>k_is
 have cn:DL.DefAtD (L2.bQ KX) mg "by_rings" Law.CJ [Value.none]:=by
  dsimp only [L2.bQ]
  refine' DL.nk KX G ?a ?l ?t ?c ?k
  case a|l|t|c|k=>k_is
 have u9:DL.DefAtD (L2.bQ KX) mg "by_order" Law.xC [Value.none]:=by
  dsimp only [L2.bQ]
  refine' DL.nk KX G ?a ?l ?t ?c ?k
  case a|l|t|c|k=>k_is
 have co:DL.DefAtD (L2.bQ KX) mg "by_order" Law.CI [Value.none]:=by
  dsimp only [L2.bQ]
  refine' DL.nk KX G ?a ?l ?t ?c ?k
  case a|l|t|c|k=>k_is
 refine DL.Wu hmg ci (fun _ _ _ _ _ _ us hl=>match us,hl with | [_],_=>rfl) fun f fd Fn base=>?_
 have va:=Law.Ru (P:=P0) (w:=w) (base:=base) T bj (Law.OG T bi (Law.FB T u7))
 have vb:=Law.TW (P:=P0) (w:=w) (base:=base) T bl (Law.QB T bk va)
 have uo:=Law.OK (P:=P0) (w:=w) (base:=base) T cj vb
 have vc:=Law.QI (P:=P0) (w:=w) (base:=base) T ck vb va (v7 base) v8
 have vd:=Law.Nk (P:=P0) (w:=w) (base:=base) T cl uo (Law.jM T ua) (Law.TH T bp (Law.qo T uh) (Law.T5 T bn (Law.QJ T bm)) (Law.Qr T bo)) (Law.tV T ul)
 have ve:=Law.OE (P:=P0) (w:=w) (base:=base) T u8 vd (Law.tV T ul) (Law.qp T ui)
 have up:=Law.OA (P:=P0) (w:=w) (base:=base) T u9 (Law.jM T ua) uo (Law.qo T uh) (Law.qp T ui)
 have um:=Law.Nj (P:=P0) (w:=w) (base:=base) (Law.Tj T uz ve ub ug) (Law.Ti T u0 up ub) (Law.Qz T yg) (Law.TV T yh)
 have uq:=Law.NW (P:=P0) (w:=w) (base:=base) (Law.TD T uz (Law.QD T cn (Law.OL T cm vc) (Law.tV T ul)) ub ug) (Law.TB T u0 (Law.QC T co (Law.jM T ua) vc (Law.qo T uh) (Law.qp T ui)) ub)
 have uf:=Law.OF (P:=P0) (w:=w) (base:=base) T br (Law.FB T u7) (Law.Ur T bq)
 have uj:=Law.Qs (P:=P0) (w:=w) (base:=base) T bs uf
 have vf:=Law.Ww (P:=P0) (w:=w) (base:=base) T bw (Law.Vf T bt) (Law.QA T bv) up (Law.jM T ua) uj
 have vg:=Law.Qp (P:=P0) (w:=w) (base:=base) T bz (Law.jM T ua)
 have vh:=Law.Mm (P:=P0) (w:=w) (base:=base) T b4 uf
 have vi:=Law.VM (P:=P0) (w:=w) (base:=base) T ca uf
 have vj:=Law.Mh (P:=P0) (w:=w) (base:=base) T cd (Law.UP T b0 vg) (Law.OI T b9 (Law.jM T ua) (Law.qo T uh) (Law.U8 T b5 uf vh (Law.Mi T b3 (Law.VL T b2))) (Law.QE T b7 uf vh (Law.Ml T b6 uf)) (Law.OJ T b8)) (Law.Qt T cc (Law.jM T ua) vi) (Law.Ni T cb vi)
 have vk:=Law.OH (P:=P0) (w:=w) (base:=base) (Law.TC T u1 (Law.jM T ua) um uj) (Law.Tz T u2 (Law.jM T ua) um uj) (Law.Th T u3 vf) (Law.T4 T u4 vj)
 have vl:=Law.Tk (P:=P0) (w:=w) (base:=base) T cf uq (Law.Qq (Law.Uq T u1 (Law.jM T ua) uq uj) (Law.Up T u2 (Law.jM T ua) uq uj) (Law.Tx T u3 (Law.Mj T bx (Law.Vb T bu v9 wa))) (Law.UO T u4 (Law.NV T ce (Law.U7 T b1 vg wb wc)))) wd we wf wg wh wi wj wk wl wm wn wo
 exact Law.Wv T Fn (Law.Gk T u5) (Law.Rt T bg (Law.Gk T u5) (Law.FA T u6)) (Law.Ql T bh) (Law.FA T u6) (Law.QH T ux (Law.tU T uk) ub ug) (Law.QG T uy (Law.tU T uk) ub) (Law.Rv T uy (Law.tU T uk) ub) (Law.Rx T ux (Law.tU T uk) ub ug) ve (Law.Qm T ch vk um yi yj) up (Law.Qo T u8 vd (Law.tV T ul) (Law.qp T ui)) (Law.Qn T u9 (Law.jM T ua) uo (Law.qo T uh) (Law.qp T ui)) vl (Law.Qk T cg um vl vk vf vj yf ye) ub ug
end
