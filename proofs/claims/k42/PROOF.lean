import PyProof.Rows.All
import Wide.All
import OpenK.AllK
import Wide.FinOn
import Lean
import PyProof.EqAt
import PyProof.EqKinds
import PyProof.TupleCall
import PyProof.Rows.SetFrom
import KE.KSortTup
import PyProof.Draws
import PyProof.EnumMake
import PyProof.ListRange
import PyProof.Rows.EnumRows
import PyProof.SetRoads
import PyProof.Rows.MinMaxN
import PyProof.Rows.MaxTwoN
import KE.KMinBuiltin
import PyProof.Rows.CallKwBuiltin
import PyProof.ZipIter
import KE.KItemsList
import KE.LcSums
import PyProof.Rows.Tup
import PyProof.SetScanFacts
import PyProof.TupleKey
import PyProof.InstSpecial
import PySem.Challenge.RW_ringtrade_k42_papers_of_tables
noncomputable section
open PySem.Heap renaming get?_push_of_some->a_,get?_push_size->i_,lt_size->o_,size_push->H_,get?_update_other->U_,get?_update_self->YM,SameBut->Zq,get?_none_of_le->Ś,ExtBut->ĩ,IsList->ś
open List renaming length_map->b_,range->d_,getElem?_eq_getElem->g_,getElem?_eq_some_iff->h_,getElem?_set_ne->j_,mem_cons_of_mem->k_,getElem?_map->l_,mem_cons_self->m_,mem_range->n_,map_map->r_,mem_cons->s_,replicate->t_,getElem?_set_self->x_,size_toArray->A_,length_append->D_,mem_map->F_,getD_eq_getElem?_getD->G_,length_cons->I_,not_mem_nil->L_,map_append->M_,getElem_of_mem->P_,map_congr_left->X_,length_range->Yv,getElem?_append_left->Yw,map_cons->Yx,all_eq_true->Yy,length_singleton->Yz,mem_singleton->YA,mem_append_right->YL,length_set->YN,mem_of_getElem?->YV,find?_cons->Y4,getElem?_range->Y_,contains_iff_mem->Za,map->Zd,length_take->Zj,length_pos_iff->Zm,getElem?_eq_none->Zn,mem_filter->Zp,getElem?_replicate->Zu,getElem_mem->Zv,getElem?_append_right->ZC,mem_append->ZH,nodup_cons->ZV,forIn_cons->ZW,idxOf_lt_length_of_mem->Z2,length->Z5,length_replicate->ē,take_append_drop->Ĕ,drop_eq_getElem_cons->Ī,range_eq_range'->ĕ,length_drop->Ö,lookup_cons->Ø,nodup_range->Ù,mem_filterMap->Ė,pairwise_cons->ė,append_nil->Ú,any_cons->Ç,map_id->þ,mem_of_mem_take->ī,range'_succ->Ę,zipWith->È,any_eq_true->ę,getElem_map->Ě,map_take->Û,sum_cons->Ü,foldl_cons->ě,range_succ->Ĝ,ext_getElem?->Ĭ,pairwise_map->ĭ,take_of_length_le->Ŝ,getElem?_toArray->ŝ,foldl->É,drop_length->Į,all_cons->ĝ,map_drop->Ğ,mem_append_left->Ş,range'->Ý,length_nil->į,length_zipWith->ş,forIn_nil->İ,drop_zero->ı,nodup_iff_pairwise_ne->Qcd,map_replicate->Š,pairwise_iff_getElem->Qck,mem_take_iff_getElem->Qcl,getElem?_take_of_lt->Qcu,filterMap_cons_some->QcA,ext_getElem->š,zipIdx_cons->Ţ,filter_cons->ţ,length_eraseIdx_le->QcR,any_map->Ĳ,map_id'->ĳ,map_set->Ĵ,of_mem_zip->Ť,map_const'->ť,zipIdx_nil->Ŧ,getElem?_zipWith->Qdk,getElem?_of_mem->QdA,pairwise_append->QdE,mem_of_mem_drop->QdG,filterMap_cons->QdR,mem_map_of_mem->QdS,filterMap_map->Qd4,zip_cons_cons->Qd9,getElem_idxOf->Qec,take_sublist->Qek,mapM_toArray->Qer,reverse_cons->Qeu,getElem_drop->Qev,zipWith_self->QeB,getElem_inj->QeD,map_snd_zip->QeJ,zipWith_map->QeN,lookup->ŧ,zip_append->QeU,Nodup->Ũ,nodup_nil->Qfj,map_nil->QfE
open PySem renaming Shared->c_,wpAny_pure->e_,starEach->f_,wpAny->p_,model->u_,Program->C_,sizeLine_eq->O_,wpAny_field->Q_,World->S_,Around->T_,wpAny_seqItems->YC,wpAny_holding->YH,compareOp->YK,wpAny_setField_rec->YO,wpAny_callSpecial?_slot->YX,wpAny_call_entry->Y0,wpAny_Call_Name_kw->Y3,codeAny_builtin->Y5,mainGlobals->Y9,foldedSetIterable->Zb,wpAny_newObj_type->Zc,Builtin->Zf,wpAny_updateSeq->Zr,plainId_quiet->Zx,wpAny_truthy_bool->Zy,assignEach->Zz,FuncData->ZB,mem_of_lookup->ZG,argBest->ZJ,wpAny_pyIter_tuple->ZK,wpAny_typeOf->ZN,wpAny_specialOf->ZX,binaryOp->ZY,codeAny->Z1,behindInMarks->Z4,wpAny_of_eq->Z6,wpAny_letGo->Z7,wpAny_mono->Z8,cLine->Z9,wpAny_passesOwn->Ê,scanBound->é,codeAny_mono->û,wpAny_pyIter_list->Þ,sysModules->î,IsPair->á,isSubtype_type->Ë,rawInt->â,SetTable->ç,call_meets->õ,swapsWith->ï,attributeBase->Ì,wpAny_onRaise->Í,wpAny_attempt->Î,wpAny_setState_of->ğ,wpAny_rule->ü,bootBuiltins->Ï,wpAny_isInstance->Ġ,Scope->à,NameKind->ð,tupleKind_room_in1->ĵ,keywordEach->Ð,sliceBounds->Ñ,pyNext->å,builtinLookup_eq_fast->ũ,holding->ñ,wpAny_updateSeq_pair->Ū,callType_new->ġ,typeLookup->Ā,wpAny_runValue->Ķ,wpAny_newTuple->ķ,wpAny_pyIter_enum->ū,ofAClassStatement->Ŭ,wpAny_standAt->ĸ,Result->ò,wpAny_newList->Ĺ,wpAny_comprehension_free->Qcx,PassesOwn->ā,backToKw->Ò,bindArgs->Ó,noFill_tuple_add->ŭ,wpAny_pyIter_zip->Ů,wpAny_forIn_list->ů,pyIter->ö,concat_meets->ĺ,IsPart->ø,getItem->ÿ,Keyword->À,callerA->Á,notedBy->Â,wpAny_execs_nil->Ű,letOwnedTupleGo->ű,codeAny_of_tree->Ų,typeLookup_type->ų,weight_type_call_type->Qdj,wpAny_eqIsQuiet_tuple->Qdm,assign->ý,richCompare->Ļ,seqIndex_of->ļ,Meets->ë,codeAny_call_builtin->Qdv,compEnvC->Ă,firstArgMember->Ŵ,wpAny_tryCatch->ŵ,IsZip->ì,isSubtype_stop->Ŷ,tupleKind->Ģ,seqIndex?->ģ,swapsWithSole->ŷ,swappedStores->Ÿ,seq_tuple_add->Ź,Draws->ó,wpAny_Constant_int->Qd1,wpAny_call->Ľ,PlainAttrs->ľ,intKind->ă,Within->ź,wpAny_assign_Name->Qeg,standAt->Ą,CmpOp->ù,BindsTo->ą,wpAny_sequenceKey->Qel,slot_list_getitem->Qem,valueAt->Ć,ItemsOf->ć,setRelay->Ĥ,wpAny_storeSet_of->Qex,lastMarks->Ŀ,getMethod->ŀ,DictEntry->Ł,isSubtype->ł,unsupported->Ż,relabel->ĥ,builtinsNs->ż,GenState->Ń,Model->Ã,wpAny_Name->Ž,wpAny_load->ž,typeIs_int->Qe5,atKey->Ä,call->Qe7,boot_len->Qe9,closureFor->Qfa,field->Å
open Nat renaming le_refl->q_,ne_of_lt->z_,lt_of_lt_of_le->B_,zero_le->YQ,ne_of_gt->YS,mod_lt->YU,lt_irrefl->YY,le_trans->Y1,lt_succ_of_lt->Y2,lt_succ_self->Zi,zero_add->Zs,lt_of_le_of_lt->Zt,le_of_lt_succ->ZT,mul_pos->Æ,le_add_right->Ħ,le_of_eq->Ĉ,lt_of_succ_lt_succ->Qbo,succ_pos->ĉ,le_of_succ_le_succ->Qbq,mul_le_mul->ħ,dvd_mul_left->ń,le_succ->Ċ,add_mul->ċ,not_lt_zero->Ņ,le_of_lt->ņ,mul_comm->Ň,sub_zero->ň,min_eq_left->Qdi,pow_le_pow_right->QdK,mul_le_mul_right->QdM,one_mul->ŉ,le_of_dvd->QdX,add_assoc->QdY,pos_of_ne_zero->Qeb,div_mul_cancel->Qed,dvd_mul_right->QeC,dvd_antisymm->QeK,mul_lt_mul''->QeM,div_le_self->QeV,gcd->Ŋ
open Array renaming getElem?_eq_getElem->w_,getElem?_toList->N_,length_toList->YR,getElem?_eq_some_iff->Y7,getD_eq_getD_getElem?->Ze,replicate->Č,perm_iff_toList_perm->Qb3,forIn_toList->Qb6,toList_push->Qcp,size_setIfInBounds->Qcz,getElem_mem_toList->QcB,getElem?_eq_none->Qc2,toArray_toList->QdF,size_map->QdH,getElem_toList->QdI,toList_extract->QdJ,getElem_mem->Qeo
open Bool renaming false_ne_true->y_,and_eq_true->R_,false_eq_true->YE,eq_iff_iff->YG,true_and->Zh,not_eq_true'->č,eq_false_iff->Qcr,and_false->Qfe,false_and->Qfk,false_or->Qfv,or_false->Qfx,not_true->Qfy
open PySem.PassesOwn renaming never->E_
open PySem.F renaming plainAttrs_list->J_,slot_list_append->YI,type_list_append->YJ,plain_extend_loop->Zk,slot_tuple_index->Zo,plainAttrs_tuple->ZP,type_tuple_index->ZQ,args_tuple_add_2->Qa3,entry_tuple_add->Qbf,slot_tuple_add->Qbm,entry_extend_loop->Qcj,slot_list_insert->Qcy,slot_list_index->QcJ,slot_list_pop->Qdn,type_list_pop->Qdo,slot_list_lt->Qdz
open Option.some renaming inj->K_
open PySem.SetTable.layClean renaming free->V_
open Int renaming toNat_natCast->W_,gcd_dvd_right->ZF,natCast_mul->ZI,toNat->ZS,natAbs_natCast->Z_,toNat_of_nonneg->Ĩ,natCast_dvd_natCast->ŋ,eq_of_mul_eq_mul_right->QaO,gcd->è,ofNat_inj->Ď,mul_right_comm->Ō,gcd_dvd_left->ō,mul_lt_mul_of_pos_right->QbW,fdiv_eq_ediv_of_nonneg->QbY,lt_of_mul_lt_mul_right->Qca,natCast_nonneg->Qcb,mul_ediv_cancel_left->QcC,ofNat_lt->Ŏ,emod_nonneg->Qdh,mul_lt_mul_right->QdL,lt_of_le_of_lt->Qea,dvd_mul_right->Qey,natCast_ediv->QeL,natAbs_mul->Qfh,dvd_trans->QfC
open PySem.Builtin.SmallTypes renaming nextOf->YB,ownedTupleIsFree->YW,ownedTupleHandOut->Z0,newRecord->QeT
open PyProof.Rows renaming callWith_type1->YD,slot_tuple_getitem->YF,IntsAre->æ,envOfC->ä,IsTup->ã,callWith_builtin1->Qbx,AllBare->ô,seqObj->ê,boot_isinstance->QbS,listUpdate_at->ŏ,subscriptTail_builtinR->QcX,get?_update_seq->Qdc,firstMet->ď,listItems_at->Qep,step_dedup->Qfd
open PySem.Str renaming ofString->YT,empty->Đ
open PySem.Builtin.List renaming listExtendWith->YZ,listTooLong->ZO,listSameRef->Ő,listLengthHint->QaJ,listFitsIndex->QaL
open PySem.Obj renaming mapSeq->Y6,putSet->đ,data_mapFields->Qd7
open PySem.SetTable renaming insertAt->Y8,toList_insertAt->Qa4,grown->ő,advance->QcO,slot->Qfz,fits->QfA,fill->QfB
open PySem.PyData renaming canLay0->Zg,depth->ZD,eqv->ú,eqvAll->Ô,canLayAll0->Qcn,depthAll->Qde
open Classical renaming byContradiction->Zl,axiomOfChoice->Qbh
open PySem.Around renaming under_plainId->Zw,under_plain->Qd6
open PySem.SetTable.probe renaming go->ZE
open Ne renaming symm->ZM
open PySem.Builtin.Str renaming occurrences->ZR
open False renaming elim->ZU
open PySem.Heap.SameBut renaming update->ZZ,refl->Qes
open PySem.Builtin.Tuple renaming tupleExact->Œ,tupleItemsOf->QbZ,tupleTooMany->Qb7
open LawfulBEq renaming eq_of_beq->í
open PySem.Builtin.Slice renaming slicePlaces->Qa0,sliceAdjust->Qch,slicePartIndex->QeR,sliceApplied->Qe4
open PySem.Builtin.Int renaming intBits->œ,intTooBig->Qdl
open PySem.Calls renaming spliced_cons->Ŕ,spliced_nil->ŕ,Name_function_global->QbX,call_function_entry->Qci
open Option renaming map_eq_some_iff->Qbn,map_some->Ŗ,isSome_map->Qcm,map_none->QeS,map->Qfg
open PySem.Shared renaming heap->Ē,TypeIs->Qfw
open PySem.Flt renaming iter_list_->QbL
open PySem.Builtin.Frozenset renaming updateFrom->QbO,newClass->Qff
open PySem.Code renaming quiet_builtin->Qb2
open PySem.Challenge renaming pw_ringtrade_k42_papers_of_tables->Qcf,rw_ringtrade_k42_papers_of_tables->Qcg
open PySem.Builtin.Range renaming rangeSize->QcE
open PySem.Heap.IsList renaming push->QcN
open Std.Legacy.Range renaming forIn_eq_forIn_range'->Qdt
open PySem.W renaming kia_tup->Õ
open PySem.SeqAt.EqAt renaming int_str->QdZ,str_int->Qd0,int_int->Qd3
open PySem.Walks renaming list->ŗ,tuple->QfJ
open Nat.succ renaming inj->Qet
open Function renaming comp_def->Qez
open List.Pairwise renaming imp->QeA,imp_of_mem->QfD
open PyProof.Rows.IsTup renaming new->Ř
open PySem.SeqAt renaming EqAt->Qe2,shaped->QfF
open Prod renaming ext->ř
open PyProof.Rows.SortSt renaming mk'->Qe8
open PySem.Draws renaming list->Qfc
open PySem.EqMixed renaming eq_bool_str->Qfl,eq_str_bool->Qfm,ne_bool_str->Qfn,ne_str_bool->Qfo,eq_int_str->Qfr,eq_str_int->Qfs,ne_int_str->Qft,ne_str_int->Qfu
open PyProof.Rows.LSm renaming sum_ints->Qfp
open PySem.Value renaming isStrOf->Qfq,isInt->QfI
open PySem.argBest renaming eq_2->QfG
set_option Elab.async false
set_option linter.all false
set_option autoImplicit true
set_option relaxedAutoImplicit true
set_option exponentiation.threshold 3000
set_option maxRecDepth 100000
set_option maxHeartbeats 4000000
def Q_a:=@PySem.wpAny_bind
def Q_b:=@PySem.wpAny_loadPart'
def Q_c:=@decide_eq_false
def Q_d:=@decide_eq_true
def Q_e:=@if_pos
def Q_f:=@if_neg
def Q_g:=@absurd
def Q_h:=@congrArg
def Q_i:=@decide_eq_true_iff
def Q_j:=@of_decide_eq_true
def Q_k:=@decide_eq_true_eq
def Q_l:=@decide_eq_decide
def Q_m:=@or_false
def Q_n:=@if_false
def Q_o:=@if_true
section
namespace L2
open PySem PySem.Spec PyProof.Rows
abbrev aU:=Sum Int Str
def m9:aU->Value->Bool
|.inl k,v=>QfI k v
|.inr x,v=>Qfq x v
def DC(w:S_):aU->Int
|.inl k=>hashInt k
|.inr x=>hashStr w x
theorem keyIs_shape:∀{k:aU}{v:Value},m9 k v=true->(∃i t,k=Sum.inl i/\v=Value.int i t)\/(∃x t,k=Sum.inr x/\v=Value.str x t)
|.inl i,v,h=>by obtain⟨t,e⟩:=Value.isInt_shape (k:=i) (v:=v) h;exact .inl ⟨i,t,rfl,e⟩
|.inr x,v,h=>by obtain⟨t,e⟩:=Value.isStrOf_shape (x:=x) (v:=v) h;exact .inr ⟨x,t,rfl,e⟩
theorem RT(i:Int)(t:Tok):m9 (.inl i) (.int i t)=true:=by simp[m9,QfI]
theorem RU(x:Str)(t:Tok):m9 (.inr x) (.str x t)=true:=by simp[m9,Qfq]
theorem Mw(a b:Int):decide ((Sum.inl a:aU)=Sum.inl b)=(a==b):=by grind
theorem Mz(a b:Str):decide ((Sum.inr a:aU)=Sum.inr b)=decide (a=b):=by grind
theorem Mx(a:Int)(b:Str):decide ((Sum.inl a:aU)=Sum.inr b)=false:=Q_c (by simp_all)
theorem My(a:Str)(b:Int):decide ((Sum.inr a:aU)=Sum.inl b)=false:=Q_c (by simp_all)
def gG(prog:C_)(w:S_):PySem.KeyKind prog w aU where
 is:=m9
 hash:=DC w
 inj:=fun v a b ha hb=>by
  rcases keyIs_shape ha with⟨i,t,rfl,rfl⟩|⟨x,t,rfl,rfl⟩
  .rcases keyIs_shape hb with⟨j,u,rfl,e⟩|⟨y,u,rfl,e⟩
   .injection e with e1 _;rw[e1]
   .exact nomatch e
  .rcases keyIs_shape hb with⟨j,u,rfl,e⟩|⟨y,u,rfl,e⟩
   .exact nomatch e
   .injection e with e1 _;rw[e1]
 byValue:=fun k v h=>by rcases keyIs_shape h with⟨i,t,rfl,rfl⟩|⟨x,t,rfl,rfl⟩ <;> rfl
 pyHash:=fun hv h=>by
  rcases keyIs_shape hv with⟨i,t,rfl,rfl⟩|⟨x,t,rfl,rfl⟩
  .exact wpAny_pyHash_int h
  .exact wpAny_pyHash_str h
 eqBool:=fun hu hv h=>by
  rcases keyIs_shape hu with⟨i,t,rfl,rfl⟩|⟨x,t,rfl,rfl⟩
  .rcases keyIs_shape hv with⟨j,u,rfl,rfl⟩|⟨y,u,rfl,rfl⟩
   .rw[Mw]at h;exact wpAny_eqBool_int h
   .rw[Mx]at h;exact QdZ i t y u _ _ _ _ h
  .rcases keyIs_shape hv with⟨j,u,rfl,rfl⟩|⟨y,u,rfl,rfl⟩
   .rw[My]at h;exact Qd0 x t j u _ _ _ _ h
   .rw[Mz]at h;exact wpAny_eqBool_str h
 «strs»:=fun k x t v h=>by
  rcases keyIs_shape h with⟨i,u,rfl,e⟩|⟨y,u,rfl,e⟩
  .exact nomatch e
  .injection e with e1 _
   subst e1;cases v <;> rfl
theorem TU(prog:C_)(w:S_)(i:Int)(t:Tok):(gG prog w).is (.inl i) (.int i t)=true:=RT i t
theorem TV(prog:C_)(w:S_)(x:Str)(t:Tok):(gG prog w).is (.inr x) (.str x t)=true:=RU x t
inductive V where
 |non|bl (b:Bool)|int (i:Int)|str (x:Str)|byt (b:Array UInt8)|flt (b:UInt64)|ref (a:Addr)|ty (n:String)
 deriving DecidableEq
def av:V->Value->Prop
|.non,u=>u=Value.none
|.bl b,u=>u=Value.bool b
|.int i,u=>∃t,u=Value.int i t
|.str x,u=>∃t,u=Value.str x t
|.byt b,u=>∃t,u=Value.bytes b t
|.flt b,u=>∃t,u=Value.float b t
|.ref a,u=>u=Value.ref a
|.ty n,u=>u=Value.type n
abbrev ar:List V->List Value->Prop:=Paired av
theorem ar.length(r:ar xs L):xs.length=L.length:=Paired.length r
theorem ar.get:∀{xs:List V}{L:List Value}{i:Nat}{x:V},ar xs L->xs[i]? = some x->∃u,L[i]? = some u/\av x u
|_,_,_,_,.nil,e=>by simp at e
|_,_,0,_,.cons r _,e=>by simp at e;subst e;exact⟨_,rfl,r⟩
|_,_,i+1,x,.cons _ t,e=>by obtain⟨u,Y,U⟩:=ar.get (i:=i) (x:=x) t (by simpa using e);exact⟨u,by simpa using Y,U⟩
theorem ar.set(r:av x u):∀{xs:List V}{L:List Value}(i:Nat),ar xs L->ar (xs.set i x) (L.set i u)
|_,_,_,.nil=>.nil
|_,_,0,.cons _ t=>.cons r t
|_,_,i+1,.cons q t=>.cons q (ar.set r i t)
theorem ar.append(h:ar xs Y)(h':ar L U):ar (xs++L) (Y++U):=by induction h with
|nil=>exact h'
|cons r _ Z=>exact .cons r Z
theorem ar.take:∀{xs:List V}{L:List Value}(n:Nat),ar xs L->ar (xs.take n) (L.take n)
|_,_,0,_=>.nil
|_,_,_+1,.nil=>.nil
|_,_,n+1,.cons r t=>.cons r (ar.take n t)
theorem ar.drop:∀{xs:List V}{L:List Value}(n:Nat),ar xs L->ar (xs.drop n) (L.drop n)
|_,_,0,r=>r
|_,_,_+1,.nil=>.nil
|_,_,n+1,.cons _ t=>ar.drop n t
def da:Option V->Option Value->Prop
|some v,some u=>av v u
|none,none=>True
|_,_=>False
def KV{κ:Type}:List (κ×V)->List (κ×Value)->Prop:=Paired fun(p:κ×V)(q:κ×Value)=>p.1=q.1/\av p.2 q.2
def kV:aU->V
|.inl i=>.int i
|.inr x=>.str x
inductive HO where
 |lst (xs:List V)
 |tup (xs:List V)
 |dK (kvs:List (aU×V))|dT (kvs:List (List aU×V))
 |set (S:Int->Bool) (n:Nat)
 |ins (C dx:Addr) (fs:List (Str×V))
 |own (x:Addr)
 |xd (fs:List (Str×V))
 |met (f x:Addr)
 |rng (lo hi:Int)
 |frz (o:Obj) (u:HO)
 |tbl (ps:Array Value)
 |ext (φ:Heap->Prop)
abbrev Hp:=Addr->Option HO
def aO(H:Hp)(a:Addr)(o:HO):Hp:=fun b=>if b=a then some o else H b
theorem bV:aO H a o a=some o:=by unfold aO;rw[Q_e rfl]
theorem bN(h:b≠a):aO H a o b=H b:=by unfold aO;rw[Q_f h]
theorem ko{H:Hp}(h:H a=some o)(h':H b=none):a≠b:=by grind
section
variable(P:C_)(w:S_)
def df(H:Hp)(h:Heap)(a:Addr):HO->Prop
|.lst xs=>xs.length<=sizeLine/\∃(its:List Value)(n:Nat),ar xs its/\h.get? a=some { cls:=.type "list",data:=.seq its.toArray n }
|.tup xs=>xs.length<=sizeLine/\∃its:List Value,ar xs its/\ã h a its.toArray/\∃o,h.get? a=some o/\o.dict=none
|.dK kvs=>kvs.length<=sizeLine/\(a==î)=false/\∃vs,KV kvs vs/\h.DictOf (gG P w) a vs
| .dT kvs=>kvs.length<=sizeLine/\(a == î)=false/\∃xs:List (List aU × Addr × Value),
   Paired (fun(p:List aU×V)(q:List aU×Addr×Value)=>p.1=q.1/\H q.2.1=some (.tup (p.1.map kV))/\av p.2 q.2.2) kvs xs /\∃o es ep,h.get? a=some o/\o.ExactDict/\o.data=.dict es ep/\es.toList=xs.map (entryOfKey (Ģ (gG P w)))/\(xs.map (·.1)).Nodup
|.set S n=>h.SetOf (ă P w) a S n
| .ins C dx fs=>H dx=some (.own a)/\fs.length<=1000/\dx≠a/\h.get? a=some (W.instObj C dx) /\
   ∃mA,h.Ns1 dx mA/\(∀f,da (fs.lookup f) (mA f))/\ź mA (fs.map (·.1))
|.own _=>∃o,h.get? a=some o
|.xd fs=>∃mA,h.Ns1 a mA/\∀f,da (fs.lookup f) (mA f)
|.rng lo hi=>∃t u v,h.get? a=some { cls:=.type "range",data:=.fields #[.int lo t,.int hi u,.int 1 v] }
|.frz o u=>h.get? a=some o/\df H h a u
|.tbl ps=>h.get? a=some { cls:=.none,data:=.fields ps }
|.met f x=>h.get? a=some (W.methodObj (.ref f) (.ref x))
|.ext φ=>φ h/\(∃o,h.get? a=some o)/\∀h1 h2:Heap,φ h1->(∀o,h1.get? a=some o->h2.get? a=some o)->φ h2
def cS(H:Hp)(h:Heap):Prop:=∀a o,H a=some o->df P w H h a o
end
variable{P:C_}{w:S_}{H H':Hp}{h h':Heap}{a:Addr}{o:HO}
theorem df.lt(x:df P w H h a o):a<h.objs.size:=by cases o with
|lst U=>obtain⟨_,_,_,_,e⟩:=x;exact o_ e
|tup U=>obtain⟨_,_,_,p,_⟩:=x;exact p.lt
|dK L=>obtain⟨_,_,_,_,o,_,_,e,_⟩:=x;exact o_ e
|dT L=>obtain⟨_,_,_,_,o,_,_,e,_⟩:=x;exact o_ e
|set S n=>obtain⟨o,_,_,_,e,_⟩:=x;exact o_ e
|ins C g Y=>obtain⟨_,_,_,e,_⟩:=x;exact o_ e
|own y=>obtain⟨_,e⟩:=x;exact o_ e
|xd Y=>obtain⟨_,⟨_,_,_,e,_⟩,_⟩:=x;exact o_ e
|rng lo d=>obtain⟨_,_,_,e⟩:=x;exact o_ e
|frz c u=>obtain⟨e,_⟩:=x;exact o_ e
|tbl b=>exact o_ (x)
|met f y=>exact o_ (x)
|ext Z=>obtain⟨_,⟨_,e⟩,_⟩:=x;exact o_ e
theorem Paired.mapP{L:List Y}{l₂:List U}(h:Paired F L l₂)(f:∀a b,F a b->G a b):Paired G L l₂:=by induction h with
|nil=>exact .nil
|cons r _ Z=>exact .cons (f _ _ r) Z
theorem df.stay(x:df P w H h a o)(k:∀b u,(b=a\/H b=some (.own a))->h.get? b=some u->h'.get? b=some u)(I:∀b,H b=some (.own a)->H' b=some (.own a))(G:∀b xs,H b=some (.tup xs)->H' b=some (.tup xs)):df P w H' h' a o:=by induction o with
|lst xs=>obtain⟨z,g,n,r,e⟩:=x;exact⟨z,g,n,r,k _ _ (.inl rfl) e⟩
|tup xs=>obtain⟨z,g,r,⟨U,e,c⟩,L,m,K⟩:=x;exact⟨z,g,r,⟨U,k _ _ (.inl rfl) e,c⟩,L,k _ _ (.inl rfl) m,K⟩
|dK l=>obtain⟨z,y,B,r,U,Y,Z,e,c⟩:=x;exact⟨z,y,B,r,U,Y,Z,k _ _ (.inl rfl) e,c⟩
|dT l=>obtain⟨z,y,xs,r,U,Y,Z,e,c⟩:=x;exact⟨z,y,xs,Paired.mapP r fun p q z=>⟨z.1,G _ _ z.2.1,z.2.2⟩,U,Y,Z,k _ _ (.inl rfl) e,c⟩
|set S n=>obtain⟨U,Y,Z,t,e,c⟩:=x;exact⟨U,Y,Z,t,k _ _ (.inl rfl) e,c⟩
|ins C O J=>obtain⟨d,z,E,e,j,⟨i,Y,Z,m,c⟩,r⟩:=x;exact⟨I _ d,z,E,k _ _ (.inl rfl) e,j,⟨i,Y,Z,k _ _ (.inr d) m,c⟩,r⟩
|own y=>obtain⟨U,e⟩:=x;exact⟨U,k _ _ (.inl rfl) e⟩
|xd J=>obtain⟨j,⟨i,Y,Z,e,c⟩,r⟩:=x;exact⟨j,⟨i,Y,Z,k _ _ (.inl rfl) e,c⟩,r⟩
|rng lo N=>obtain⟨t,u,v,e⟩:=x;exact⟨t,u,v,k _ _ (.inl rfl) e⟩
|frz U u F=>obtain⟨e,q⟩:=x;exact⟨k _ _ (.inl rfl) e,F q⟩
|tbl A=>have e:h.get? a=some { cls:=.none,data:=.fields A }:=x;show h'.get? a=some { cls:=.none,data:=.fields A };exact k a _ (.inl rfl) e
|met f y=>have e:h.get? a=some (W.methodObj (.ref f) (.ref y)):=x;show h'.get? a=some (W.methodObj (.ref f) (.ref y));exact k a _ (.inl rfl) e
|ext M=>obtain⟨p,⟨o,e⟩,s⟩:=x;exact⟨s _ _ p fun o q=>k _ _ (.inl rfl) q,⟨o,k _ _ (.inl rfl) e⟩,s⟩
theorem cS.lt(x:cS P w H h)(e:H a=some o):a<h.objs.size:=(x a o e).lt
theorem cS.fresh(x:cS P w H h)(e:h.objs.size<=a):H a=none:=by cases q:H a with
|none=>rfl
|some u=>exact Q_g (B_ (x.lt q) e) (YY _)
theorem cS.kept(x:cS P w H h)(k:∀b u,h.get? b=some u->h'.get? b=some u):cS P w H h':=fun a o e=>(x a o e).stay (fun b u _ q=>k b u q) (fun _ q=>q) fun _ _ q=>q
theorem cS.laid(x:cS P w H h)(k:∀b u,h.get? b=some u->h'.get? b=some u)(Z:h.objs.size<=a)(L:df P w (aO H a o) h' a o):cS P w (aO H a o) h':=fun b u e=>by
 have U:=x.fresh Z;by_cases Y:b=a
 .subst Y;rw[bV]at e;cases e;exact L
 .rw[bN Y]at e;exact(x b u e).stay (by grind) (fun c q=>by rw[bN (ko q U)];exact q) fun c d q=>by rw[bN (ko q U)];exact q
def Rd(H:Hp)(a:Addr)(u:HO):Prop:=H a=some u\/∃o,H a=some (.frz o u)
theorem Rd.ok(r:Rd H a u)(x:cS P w H h):df P w H h a u:=by
 rcases r with r|⟨o,r⟩
 .exact x a u r
 .obtain⟨_,q⟩:=x a _ r;exact q
def qN:Option HO->Prop
|some (.lst _)=>True
|some (.dK _)=>True
|some (.dT _)=>True
|some (.set _ _)=>True
|some (.ins _ _ _)=>True
|some (.ext _)=>True
|_=>False
section
variable{x e:Addr}{o':HO}
theorem cS.write(i:cS P w H h)(a:qN (H x))(l:e=x\/H e=some (.own x))(k:∀b u,b≠e->h.get? b=some u->h'.get? b=some u)(Y:∃u,h'.get? e=some u)(d:df P w (aO H x o') h' x o'):cS P w (aO H x o') h':=fun b u q=>by
 have L:∀c y,H c=some (.own y)->c≠x:=fun c y r z=>by subst z;rw[r]at a;exact a
 have U:∀c Z,H c=some (.tup Z)->c≠x:=fun c Z r z=>by subst z;rw[r]at a;exact a
 by_cases g:b=x
 .subst g;rw[bV]at q;cases q;exact d
 .rw[bN g]at q;by_cases f:b=e
  .have q':H b=some (.own x):=by simp_all
   rw[q]at q';cases q';obtain⟨v,j⟩:=Y;exact⟨v,by rw[f];exact j⟩
  .refine(i b u q).stay (fun c v m r=>k c v ?_ r) (fun c r=>by rw[bN (L c b r)];exact r) fun c Z r=>by rw[bN (U c Z r)];exact r
   grind
end
structure Un(fs ex:List Addr)(H H':Hp)(h h':Heap):Prop where
 keep:∀b o,h.get? b=some o->H b=none->b∉fs->b∉ex->h'.get? b=some o
 slot:∀b o,h.get? b=some o->H b=none->b∈fs->b∉ex->∃sl,h'.get? b=some { o with slots:=sl }
 free:∀b o,h.get? b=some o->H b=none->b∉ex->H' b=none
 there:∀b o,h.get? b=some o->b∉ex->∃o',h'.get? b=some o'
 tups:∀b xs,H b=some (.tup xs)->H' b=some (.tup xs)
 frzs:∀b o u,H b=some (.frz o u)->H' b=some (.frz o u)
 tbls:∀b ps,H b=some (.tbl ps)->∃more,H' b=some (.tbl (ps++more))
section
variable{fs fs' ex ex':List Addr}{H1 H2:Hp}{h1 h2:Heap}{x e:Addr}
theorem Un.any(u:Un fs ex H H1 h h1)(q:h.get? b=some L)(n:H b=none)(U:b∉ex):∃Z,h1.get? b=some { L with slots:=Z }:=by
 by_cases Y:b∈fs
 .exact u.slot b L q n Y U
 .exact⟨L.slots,u.keep b L q n Y U⟩
theorem Un.kept(k:∀b u,h.get? b=some u->h'.get? b=some u):Un fs ex H H h h':=⟨fun b L q _ _ _=>k b L q,fun b L q _ _ _=>⟨L.slots,k b L q⟩,fun _ _ _ n _=>n,fun b L q _=>⟨L,k b L q⟩,fun _ _ q=>q,fun _ _ _ q=>q,fun _ U q=>⟨#[],by rw[q];simp⟩⟩
theorem Un.refl:Un fs ex H H h h:=Un.kept fun _ _ q=>q
theorem Un.laid(k:∀b u,h.get? b=some u->h'.get? b=some u)(Y:h.objs.size<=a)(L:H a=none):Un fs ex H (aO H a o) h h' where
 keep:=fun b u q _ _ _=>k b u q
 slot:=fun b u q _ _ _=>⟨u.slots,k b u q⟩
 free:=fun b u q n _=>by rw[bN (z_ (B_ (o_ q) Y))];exact n
 there:=fun b u q _=>⟨u,k b u q⟩
 tups:=fun b U q=>by rw[bN (ko q L)];exact q
 frzs:=fun b u U q=>by rw[bN (ko q L)];exact q
 tbls:=fun b Z q=>⟨#[],by rw[bN (ko q L),q];simp⟩
theorem Un.write(Y:qN (H x))(g:e=x\/H e=some (.own x))(k:∀b u,b≠e->h.get? b=some u->h'.get? b=some u)(L:∃u,h'.get? e=some u):Un fs ex H (aO H x o) h h':=by
 have c:∀b,H b=none->b≠x:=fun b n z=>by subst z;rw[n]at Y;exact Y
 have Z:∀b,H b=none->b≠e:=fun b n z=>by simp_all
 have U:∀b u,H b=some u->¬ qN (some u)->b≠x:=fun b u q f z=>by simp_all
 refine⟨fun b u q n _ _=>k b u (Z b n) q,fun b u q n _ _=>⟨u.slots,k b u (Z b n) q⟩,fun b u q n _=>by rw[bN (c b n)];exact n,fun b u q _=>?_,fun b a q=>by rw[bN (U b _ q fun z=>z)];exact q,fun b u a q=>by rw[bN (U b _ q fun z=>z)];exact q,fun b d q=>⟨#[],by rw[bN (U b _ q fun z=>z),q];simp⟩⟩
 grind
end
def trk(h:Heap)(H:Hp):List Addr:=(d_ h.objs.size).filter fun a=>(H a).isSome
def iJ(h:Heap)(H:Hp):Heap:=W.hideAll h (trk h H)
theorem Re(h:Heap)(H:Hp):(iJ h H).objs.size=h.objs.size:=W.hideAll_size _ _
theorem PM{o:Obj}(e:h.get? b=some o)(n:H b=none):(iJ h H).get? b=some o:=W.hideAll_get _ e fun L=>by have q:=(Zp.mp L).2;simp_all
theorem OW{o:Obj}(e:(iJ h H).get? b=some o):h.get? b=some o/\H b=none:=by have L:=W.of_hideAll _ e;refine⟨L,?_⟩;cases q:H b with
|none=>rfl
|some x=>have U:b∈trk h H:=Zp.mpr ⟨n_.mpr (o_ L),by simp[q]⟩;have z:(iJ h H).get? b=none:=W.hideAll_none _ U;rw[z]at e;cases e
def oZ(g h:Heap)(L:Addr):List (Addr×Obj):=(d_ h.objs.size).filterMap fun a=>if a=L\/(g.get? a).isSome=true then none else(h.get? a).map fun o=>(a,o)
theorem AM{o:Obj}(Z:a≠L)(Y:g.get? a=none)(U:h.get? a=some o):(a,o)∈oZ g h L:=Ė.mpr ⟨a,n_.mpr (o_ U),by simp[Z,Y,U]⟩
theorem UR(U:p∈oZ g h L):p.1≠L/\g.get? p.1=none/\h.get? p.1=some p.2:=by
 obtain⟨b,_,e⟩:=Ė.mp U;split at e
 .cases e
 .rename_i hn;cases q:h.get? b with
 |none=>simp_all
 |some u=>rw[q]at e;simp  at e;subst e;refine⟨fun z=>hn (.inl z),?_,q⟩;cases r:g.get? b with
  |none=>rfl
  |some v=>simp_all
theorem HQ:News g L h (oZ g h L):=fun p U=>let⟨a,b,c⟩:=UR U;⟨c,a,b⟩
structure Mod(K:W.Frag)(mg:Str->Option Value)(base:Heap):Prop where
 kin:K.In base
 glob:base.Ns Y9 mg
 blt:∃mb,base.Ns ż mb/\∀x:Str,x≠"__name__"->mb x=Ï x
 nolimit:base.NoLimit
structure Cx where
 prog:C_
 w:S_
 K:W.Frag
 mg:Str->Option Value
 base:Heap
 A:T_
 N:List Str
 s₀:c_
 H₀:Hp
 env:Env
 outer:List Env
 stack:List Env
 ex:List Addr
 fn:Str->Bool
 calm:Bool
 pn:List (Addr×Obj)
 xe:Value->c_->Prop
def ij(l:List Env):List Addr:=l.filterMap (·.frame)
abbrev Cx.fs(X:Cx):List Addr:=ij X.outer
def ik(sc:à)(x:Str):Prop:=sc.names.lookup x=some .local\/sc.names.lookup x=some .cell\/sc.names.lookup x=some .free
def je(sc:à)(x:Str):Prop:=sc.names.lookup x=some .local\/sc.names.lookup x=some .cell
theorem gJ(h:(match L.names.lookup x with|some .local=>true|some .cell=>true|some .free=>true|_=>false)=true):ik L x:=by
 revert h;unfold ik;split<;>intro h
 .exact .inl (by assumption)
 .exact .inr (.inl (by assumption))
 .exact .inr (.inr (by assumption))
 .cases h
def DX(env:Env)(h:Heap)(m:Str->Option Value)(x:Str)(u:Value):Prop:=(env.kindOf x=some .local/\m x=some u)\/((env.kindOf x=some .cell\/env.kindOf x=some .free)/\∃c,env.cells.lookup x=some c/\h.IsCell c (some u))
structure Cx.Ok(X:Cx):Prop where
 mod:Mod X.K X.mg X.base
 kind:X.env.scope.kind=.function
 glob:X.env.globals=Y9
 blt:X.env.builtins=ż
 above:X.s₀.heap.objs.size<=X.env.locals
 inj:∀x y c,X.env.cells.lookup x=some c->X.env.cells.lookup y=some c->x=y
 has:∀x,(X.env.kindOf x=some .cell\/X.env.kindOf x=some .free)->∃c,X.env.cells.lookup x=some c
 cab:∀x c,X.fn x=true->X.env.cells.lookup x=some c->X.s₀.heap.objs.size<=c
 hd:X.calm=true->X.A.handled=none
 frames:X.A.frames=some X.stack
 stk:X.stack=X.outer\/(X.stack=X.env::X.outer/\X.env.frame=some X.env.locals)
 exf:∀b∈X.ex,b≠X.env.locals/\∀x c,X.env.cells.lookup x=some c->c≠b
 bs:∀b o,X.base.get? b=some o->X.s₀.heap.get? b=some o/\X.H₀ b=none
 bsz:X.base.objs.size<=X.s₀.heap.objs.size
 noex:∀b o,X.base.get? b=some o->b∉X.ex
 exfs:∀b∈X.ex,b∉X.fs
 funs:X.s₀.heap.FunFrames X.base X.outer
 frf:∀b∈X.fs,X.H₀ b=none
structure Inv(X:Cx)(pz:List (Addr×Obj))(σ:List (Option V))(H:Hp)(s:c_):Prop where
 ok:X.Ok
 os:s.os=X.s₀.os
 bare:ô s.gens
 base:Un X.fs X.ex X.H₀ H X.s₀.heap s.heap
 loc:∃m,s.heap.Ns X.env.locals m/\∀(i:Nat)(x:Str)(v:V),X.N[i]? = some x->σ[i]? = some (some v)->ik X.env.scope x->∃u,av v u/\DX X.env s.heap m x u
 cell:∀x c,X.env.cells.lookup x=some c->∃v,s.heap.IsCell c v
 free:H X.env.locals=none
 freeC:∀x c,X.env.cells.lookup x=some c->H c=none
 pin:∀p∈X.pn++pz,s.heap.get? p.1=some p.2/\H p.1=none/\p.1≠X.env.locals/\p.1∉X.fs/\∀v,p.2.data≠.cell v
 hok:cS X.prog X.w H s.heap
 len:σ.length=X.N.length
variable{X:Cx}{pz:List (Addr×Obj)}{s:c_}
section
variable{σ:List (Option V)}
theorem Cx.Ok.nofr(L:X.Ok){o:Obj}(e:X.base.get? b=some o):b∉X.fs:=fun U=>by have:=(L.funs.mem U).1;simp_all
theorem Inv.bs(I:Inv X pz σ H s):∀b o,X.base.get? b=some o->s.heap.get? b=some o/\H b=none:=fun b o e=>⟨I.base.keep b o (I.ok.bs b o e).1 (I.ok.bs b o e).2 (I.ok.nofr e) (I.ok.noex b o e),I.base.free b o (I.ok.bs b o e).1 (I.ok.bs b o e).2 (I.ok.noex b o e)⟩
theorem Inv.bk(I:Inv X pz σ H s):∀b o,X.base.get? b=some o->s.heap.get? b=some o:=fun b o e=>(I.bs b o e).1
theorem Inv.mod(I:Inv X pz σ H s):Mod X.K X.mg X.base:=I.ok.mod
theorem Inv.kIn(I:Inv X pz σ H s):X.K.In s.heap:=I.ok.mod.kin.keeps I.bk
theorem Inv.fr(I:Inv X pz σ H s):∃m,Fr X.base X.env.locals s.heap m:=let⟨m,L,_⟩:=I.loc
 ⟨m,L,I.bk,Y1 I.ok.bsz I.ok.above⟩
theorem Inv.lt(I:Inv X pz σ H s):X.env.locals<s.heap.objs.size:=let⟨_,L,_⟩:=I.loc;L.lt
theorem Inv.sz(I:Inv X pz σ H s):X.s₀.heap.objs.size<=s.heap.objs.size:=Y1 I.ok.above (ņ I.lt)
theorem Inv.nofs(I:Inv X pz σ H s)(h:s.heap.objs.size<=a):a∉X.fs:=fun U=>by obtain⟨_,o,L,_⟩:=I.ok.funs.mem U;exact Q_g (B_ (o_ L) (Y1 I.sz h)) (YY _)
theorem Inv.cne(I:Inv X pz σ H s):∀x c,X.env.cells.lookup x=some c->c≠X.env.locals:=fun x c e z=>by obtain⟨v,o,Z,a⟩:=I.cell x c e;obtain⟨m,⟨Y,b,d,U,L,_⟩,_⟩:=I.loc;simp_all
theorem Inv.funs(I:Inv X pz σ H s):s.heap.FunFrames X.base X.outer:=by
 have Y:∀(l:List Env),(∀b∈ij l,b∈X.fs)->X.s₀.heap.FunFrames X.base l->s.heap.FunFrames X.base l:=by
  intro l
  induction l with
 |nil=>intro _ _;trivial
 |cons j r a=>intro Z f;obtain⟨g,⟨L,o,h,m,d,n⟩,c⟩:=f;have U:=Z L (by unfold ij;simp_all);obtain⟨k,e⟩:=I.base.slot L o d (I.ok.frf L U) U fun z=>I.ok.exfs L z U;exact⟨g,by simp_all,a (fun b i=>Z b (by unfold ij;rw[QdR,h];exact k_ _ i)) c⟩
 exact Y X.outer (by simp_all) I.ok.funs
theorem Inv.stack(I:Inv X pz σ H s):s.heap.FunFrames X.base X.stack:=by
 rcases I.ok.stk with e|⟨e,U⟩
 .rw[e];exact I.funs
 .rw[e];obtain⟨m,L,_⟩:=I.loc;refine .cons (by rw[I.ok.kind];decide) U L ?_ I.funs;exact Ś (Y1 I.ok.bsz I.ok.above)
theorem Inv.stkSub(I:Inv X pz σ H s):∀b∈ij X.stack,b∈X.env.locals::X.fs:=fun b L=>by
 rcases I.ok.stk with e|⟨e,U⟩
 .simp_all
 .rw[e]at L;unfold ij at L;rw[QdR,U]at L;exact L
theorem Inv.stkFree(I:Inv X pz σ H s):∀b∈ij X.stack,H b=none:=fun b L=>by
 rcases s_.mp (I.stkSub b L)with e|L
 .rw[e];exact I.free
 .obtain⟨_,o,ho,_⟩:=I.ok.funs.mem L;exact I.base.free b o ho (I.ok.frf b L) fun z=>I.ok.exfs b z L
theorem Inv.step{ch:List Addr}(I:Inv X pz σ H s)(L:∀b∈ch,(b∈X.ex\/X.s₀.heap.objs.size<=b)/\b≠X.env.locals/\(∀x c,X.env.cells.lookup x=some c->c≠b)/\∀p∈X.pn++pz,p.1≠b)(g:∀b o,b≠X.env.locals->b∉X.fs->b∉ch->s.heap.get? b=some o->H b=none->h'.get? b=some o)(h:∀b o,b≠X.env.locals->b∈X.fs->b∉ch->s.heap.get? b=some o->H b=none->∃J,h'.get? b=some { o with slots:=J })(f:∀b o,b∉ch->s.heap.get? b=some o->H b=none->H' b=none)(j:∀b o,b∉ch->s.heap.get? b=some o->∃C,h'.get? b=some C)(A:∀b xs,H b=some (.tup xs)->H' b=some (.tup xs))(F:∀b o u,H b=some (.frz o u)->H' b=some (.frz o u))(B:∀b ps,H b=some (.tbl ps)->∃E,H' b=some (.tbl (ps++E)))(Q:∀m,s.heap.Ns X.env.locals m->h'.Ns X.env.locals m)(K:cS X.prog X.w H' h')(S:ô g'):Inv X pz σ H' { s with heap:=h',gens:=g',drawn:=d',toks:=t' }:=by
 have P:∀b o,X.s₀.heap.get? b=some o->b≠X.env.locals:=fun b o e=>z_ (B_ (o_ e) I.ok.above);have Z:∀b o,X.s₀.heap.get? b=some o->b∉X.ex->b∉ch:=fun b o e a t=>by
  rcases(L b t).1 with z|z
  .exact a z
  .exact Q_g (B_ (o_ e) z) (YY _)
 have Y:∀x c,X.env.cells.lookup x=some c->∀v,s.heap.IsCell c v->h'.IsCell c v:=fun x c e v ⟨o,y,M⟩=>by
  have U:c∉ch:=fun z=>(L c z).2.2.1 x c e rfl;by_cases O:c∈X.fs
  .obtain⟨J,q⟩:=h c o (I.cne x c e) O U y (I.freeC x c e);exact⟨_,q,M⟩
  .exact⟨o,g c o (I.cne x c e) O U y (I.freeC x c e),M⟩
 refine⟨I.ok,I.os,S,⟨fun b o e n t a=>?_,fun b o e n t a=>?_,fun b o e n a=>?_,fun b o e a=>?_,fun b xs e=>A b xs (I.base.tups b xs e),fun b o xs e=>F b o xs (I.base.frzs b o xs e),fun b ps e=>?_⟩,?_,fun x c e=>?_,?_,fun x c e=>?_,fun p N=>?_,K,I.len⟩
 .exact g b o (P b o e) t (Z b o e a) (I.base.keep b o e n t a) (I.base.free b o e n a)
 .obtain⟨J,e1⟩:=I.base.slot b o e n t a;obtain⟨W,G⟩:=h b _ (P b o e) t (Z b o e a) e1 (I.base.free b o e n a);exact⟨W,G⟩
 .obtain⟨C,e1⟩:=I.base.there b o e a;exact f b C (Z b o e a) e1 (I.base.free b o e n a)
 .obtain⟨C,e1⟩:=I.base.there b o e a;exact j b C (Z b o e a) e1
 .obtain⟨m1,e1⟩:=I.base.tbls b ps e;obtain⟨R,G⟩:=B b _ e1;exact⟨m1++R,by rw[G,Array.append_assoc]⟩
 .obtain⟨m,hn,hl⟩:=I.loc;refine⟨m,Q m hn,fun i x v e1 G T=>?_⟩;obtain⟨u,r,l⟩:=hl i x v e1 G T;refine⟨u,r,?_⟩;rcases l with l|⟨k,c,e,z⟩
  .exact .inl l
  .exact .inr ⟨k,c,e,Y x c e _ z⟩
 .obtain⟨v,z⟩:=I.cell x c e;exact⟨v,Y x c e v z⟩
 .obtain⟨m,⟨o,_,_,y,_⟩,_⟩:=I.loc;exact f _ o (fun z=>(L _ z).2.1 rfl) y I.free
 .obtain⟨v,o,y,M⟩:=I.cell x c e;exact f c o (fun z=>(L c z).2.2.1 x c e rfl) y (I.freeC x c e)
 .obtain⟨e,n,ne,nf,d⟩:=I.pin p N;have U:p.1∉ch:=fun z=>(L p.1 z).2.2.2 p N rfl;exact⟨g p.1 p.2 ne nf U e n,f p.1 p.2 U e n,ne,nf,d⟩
theorem Inv.un(I:Inv X pz σ H s)(u:Un X.fs [] H H' s.heap h')(Z:cS X.prog X.w H' h'):Inv X pz σ H' { s with heap:=h',toks:=t' }:=by obtain⟨m,⟨o,k,l,c,r⟩,_⟩:=id I.loc;obtain⟨h,g⟩:=u.any c I.free (by simp);exact I.step (ch:=[]) (by simp_all) (fun b o _ a _ e n=>u.keep b o e n a (by simp)) (fun b o _ a _ e n=>u.slot b o e n a (by simp)) (fun b o _ e n=>u.free b o e n (by simp)) (fun b o _ e=>u.there b o e (by simp)) u.tups u.frzs u.tbls (fun j f=>by obtain⟨i,U,Y,L,d⟩:=f;rw[c]at L;cases L;exact⟨_,U,Y,g,d⟩) Z I.bare
theorem Inv.call{g':Array Ń}(I:Inv X pz σ H s)(u:Un (ij X.stack) ch H H' s.heap h')(d:cS X.prog X.w H' h')(j:ô g')(U:∀b∈ch,(b∈X.ex\/X.s₀.heap.objs.size<=b)/\b≠X.env.locals/\(∀x c,X.env.cells.lookup x=some c->c≠b)/\∀p∈X.pn++pz,p.1≠b):Inv X pz σ H' { s with heap:=h',gens:=g',drawn:=d',toks:=t' }:=by obtain⟨m,⟨o,v,y,g,r⟩,_⟩:=id I.loc;obtain⟨l,f⟩:=u.any g I.free fun z=>(U _ z).2.1 rfl;exact I.step U (fun b o f k a e n=>u.keep b o e n (fun z=>(s_.mp (I.stkSub b z)).elim f k) a) (fun b o _ _ a e n=>u.any e n a) (fun b o a e n=>u.free b o e n a) (fun b o a e=>u.there b o e a) u.tups u.frzs u.tbls (fun t i=>by obtain⟨q,Z,Y,L,h⟩:=i;rw[g]at L;cases L;exact⟨_,Z,Y,f,h⟩) d j
theorem Inv.turned(I:Inv X pz σ H s)(k:∀b o,b≠U->s.heap.get? b=some o->h'.get? b=some o)(a:H U=none)(Z:U≠X.env.locals)(i:U∈X.ex\/X.s₀.heap.objs.size<=U)(h:∀x c,X.env.cells.lookup x=some c->c≠U)(g:∀p∈X.pn++pz,p.1≠U):Inv X pz σ H { s with heap:=h',toks:=t' }:=by
 have L:∀b u,H b=some u->b≠U:=fun b u e z=>by rw[z,a]at e;cases e
 refine I.step (g':=s.gens) (d':=s.drawn) (ch:=[U]) (fun b f=>?_) (fun b o _ _ Y e _=>k b o (fun z=>Y (by simp[z])) e) (fun b o _ _ Y e _=>⟨o.slots,k b o (fun z=>Y (by simp[z])) e⟩) (fun _ _ _ _ n=>n)
  (fun b o Y e=>⟨o,k b o (fun z=>Y (by simp[z])) e⟩) (fun _ _ e=>e) (fun _ _ _ e=>e) (fun b j e=>⟨#[],by rw[e];simp⟩) (fun m d=>?_) (fun b u e=>?_) I.bare
 .have e:b=U:=by simpa using f
  subst e;exact⟨i,Z,h,g⟩
 .obtain⟨o,es,ep,ho,r⟩:=d;exact⟨o,es,ep,k _ o (ZM Z) ho,r⟩
 .refine(I.hok b u e).stay (fun c v Y q=>k c v ?_ q) (fun _ q=>q) fun _ _ q=>q;rcases Y with z|z
  .rw[z];exact L b u e
  .exact L c _ z
theorem Inv.tok(I:Inv X pz σ H s)(t:Nat):Inv X pz σ H { s with toks:=t }:=I.un Un.refl I.hok
theorem Inv.kept(I:Inv X pz σ H s)(k:∀b u,s.heap.get? b=some u->h'.get? b=some u):Inv X pz σ H { s with heap:=h',toks:=t' }:=I.un (Un.kept k) (I.hok.kept k)
theorem Inv.laid(I:Inv X pz σ H s)(k:∀b u,s.heap.get? b=some u->h'.get? b=some u)(U:s.heap.objs.size<=a)(L:df X.prog X.w (aO H a o) h' a o):Inv X pz σ (aO H a o) { s with heap:=h',toks:=t' }:=I.un (Un.laid k U (I.hok.fresh U)) (I.hok.laid k U L)
theorem Inv.write(I:Inv X pz σ H s)(Y:qN (H x))(Z:e=x\/H e=some (.own x))(k:∀b u,b≠e->s.heap.get? b=some u->h'.get? b=some u)(L:∃u,h'.get? e=some u)(U:df X.prog X.w (aO H x o) h' x o):Inv X pz σ (aO H x o) { s with heap:=h',toks:=t' }:=I.un (Un.write Y Z k L) (I.hok.write Y Z k L U)
theorem Inv.pins_of(I:Inv X pz σ H s)(h:∀p∈L,s.heap.get? p.1=some p.2/\H p.1=none/\p.1≠X.env.locals/\p.1∉X.fs/\∀v,p.2.data≠.cell v):Inv X L σ H s:=⟨I.ok,I.os,I.bare,I.base,I.loc,I.cell,I.free,I.freeC,fun p U=>(ZH.mp U).elim (fun z=>I.pin p (Ş _ z)) (h p),I.hok,I.len⟩
theorem HR{N:List Str}(hN:N.Nodup){i j:Nat}(a:N[i]? = some x)(b:N[j]? = some x):i=j:=by obtain⟨Z,U⟩:=h_.mp a;obtain⟨Y,L⟩:=h_.mp b;exact(QeD hN).mp (U.trans L.symm)
theorem Jm(I:Inv X pz σ H s)(hN:X.N.Nodup)(J:X.N[i]? = some x)(g:je X.env.scope x)(r:av v u)(h:∀S,Inv X pz (σ.set i (some v)) H S->(∃a,Zq a s.heap S.heap/\(a=X.env.locals\/X.env.cells.lookup x=some a))->Q () S)(hf:X.fn x=true\/X.env.scope.names.lookup x=some .local:=by first|exact .inl rfl|exact .inr rfl|assumption):p_ M A (storeName X.env x u) Q E s:=by
 obtain⟨m,hn,hl⟩:=id I.loc;have Y:(X.env.scope.kind==.class || (X.env.scope.kind==.module&&X.env.locals != X.env.globals))=false:=by rw[I.ok.kind];rfl
 have U:i<σ.length:=by rw[I.len];grind
 have C:=I.cne;have L:∀{a:Addr}{G:Heap},(∃o,s.heap.get? a=some o/\H a=none)->Zq a s.heap G->cS X.prog X.w H G:=fun{a G} ha hs b ob e=>by
  refine(I.hok b ob e).stay (fun c O l q=>(hs.2 c ?_).trans q) (fun _ q=>q) fun _ _ q=>q
  grind
 rcases g with F|F
 .refine wpAny_storeName_local F hn (fun G Cl hs=>?_) Y;obtain⟨oL,_,_,Z,_⟩:=id hn;refine h _ ⟨I.ok,I.os,I.bare,⟨fun b o e n B g=>?_,fun b o e n B g=>?_,I.base.free,fun b o e g=>?_,I.base.tups,I.base.frzs,I.base.tbls⟩,⟨_,Cl,fun j y P f t e3=>?_⟩,fun y c e=>?_,I.free,I.freeC,fun p W=>?_,L ⟨oL,Z,I.free⟩ hs,by simpa using I.len⟩ ⟨_,hs,.inl rfl⟩
  .exact(hs.2 b (z_ (B_ (o_ e) I.ok.above))).trans (I.base.keep b o e n B g)
  .obtain⟨sl,f⟩:=I.base.slot b o e n B g;exact⟨sl,(hs.2 b (z_ (B_ (o_ e) I.ok.above))).trans f⟩
  .obtain⟨o',f⟩:=I.base.there b o e g;exact⟨o',(hs.2 b (z_ (B_ (o_ e) I.ok.above))).trans f⟩
  .by_cases hj:j=i
   .subst hj;rw[J]at f;cases f;rw[x_ U]at t;cases t;exact⟨u,r,.inl ⟨F,by simp⟩⟩
   .rw[j_ (ZM hj)]at t;obtain⟨R,T,q⟩:=hl j y P f t e3;refine⟨R,T,?_⟩;rcases q with⟨k,e⟩|⟨k,c,e,z⟩
    .refine .inl ⟨k,?_⟩;have:y≠x:=fun e=>hj (HR hN f (e▸J));simp[this,e]
    .exact .inr ⟨k,c,e,z.sameBut hs (C y c e)⟩
  .obtain⟨O,z⟩:=I.cell y c e;exact⟨O,z.sameBut hs (C y c e)⟩
  .obtain⟨e,n,ne,nf,d⟩:=I.pin p W;exact⟨(hs.2 p.1 ne).trans e,n,ne,nf,d⟩
 .have hfn:X.fn x=true:=by simp_all
  obtain⟨c,l⟩:=I.ok.has x (.inl F);obtain⟨O,z⟩:=I.cell x c l;refine wpAny_storeName_cell I.ok.kind F l z (fun G ac hs=>?_);obtain⟨oc,BT,Id⟩:=id z;refine h { s with heap:=G } ⟨I.ok,I.os,I.bare,⟨fun b o e n B g=>?_,fun b o e n B g=>?_,I.base.free,fun b o e g=>?_,I.base.tups,I.base.frzs,I.base.tbls⟩,⟨m,hn.sameBut hs (ZM (C x c l)),fun j y P f t e3=>?_⟩,fun y K e=>?_,I.free,I.freeC,fun p W=>?_,L ⟨oc,BT,I.freeC x c l⟩ hs,by simpa using I.len⟩ ⟨c,hs,.inr l⟩
  .exact(hs.2 b (z_ (B_ (o_ e) (I.ok.cab x c hfn l)))).trans (I.base.keep b o e n B g)
  .obtain⟨sl,f⟩:=I.base.slot b o e n B g;exact⟨sl,(hs.2 b (z_ (B_ (o_ e) (I.ok.cab x c hfn l)))).trans f⟩
  .obtain⟨o',f⟩:=I.base.there b o e g;exact⟨o',(hs.2 b (z_ (B_ (o_ e) (I.ok.cab x c hfn l)))).trans f⟩
  .by_cases hj:j=i
   .subst hj;rw[J]at f;cases f;rw[x_ U]at t;cases t;exact⟨u,r,.inr ⟨.inl F,c,l,ac⟩⟩
   .rw[j_ (ZM hj)]at t;obtain⟨R,T,q⟩:=hl j y P f t e3;refine⟨R,T,?_⟩;rcases q with q|⟨k,K,e,z'⟩
    .exact .inl q
    .refine .inr ⟨k,K,e,z'.sameBut hs ?_⟩
     rintro rfl
     exact hj (HR hN f (I.ok.inj _ _ _ e l▸J))
  .by_cases hcc:K=c
   .grind
   .obtain⟨w2,z2⟩:=I.cell y K e;exact⟨w2,z2.sameBut hs hcc⟩
  .obtain⟨e,n,ne,nf,d⟩:=I.pin p W;refine⟨(hs.2 p.1 ?_).trans e,n,ne,nf,d⟩
   grind
theorem HI(I:Inv X pz σ H s)(hN:X.N.Nodup)(Y:X.N[i]? = some x)(U:je X.env.scope x)(r:av v u)(h:∀L,Inv X pz (σ.set i (some v)) H L->Q () L)(Z:X.fn x=true\/X.env.scope.names.lookup x=some .local:=by first|exact .inl rfl|exact .inr rfl|assumption):p_ M A (storeName X.env x u) Q E s:=Jm I hN Y U r (fun L a _=>h L a) Z
theorem Inv.call'(I:Inv X pz σ H s)(Z:U.os=s.os)(u:Un (ij X.stack) ch H H' s.heap U.heap)(Y:cS X.prog X.w H' U.heap)(a:ô U.gens)(L:∀b∈ch,(b∈X.ex\/X.s₀.heap.objs.size<=b)/\b≠X.env.locals/\(∀x c,X.env.cells.lookup x=some c->c≠b)/\∀p∈X.pn++pz,p.1≠b):Inv X pz σ H' U:=by obtain⟨g,h,i,d,f⟩:=U;have e:=Z;subst e;exact I.call u Y a L
end
abbrev XK:=Value->Option Addr->Hp->Prop
abbrev St:=List (Option V)
abbrev VK:=V->Hp->Prop
abbrev TE:=St->Hp->VK->Prop
abbrev TT:=St->Hp->(Bool->Hp->Prop)->Prop
abbrev TA:=St->Hp->(List V->Hp->Prop)->Prop
structure Ends where
 nx:St->Hp->Prop
 rt:VK
 bk:St->Hp->Prop:=fun _ _=>False
 ct:St->Hp->Prop:=fun _ _=>False
abbrev TS:=Ends->St->Hp->Prop
def EP(X:Cx)(pz:List (Addr×Obj))(σ:St)(Q:VK)(u:Value)(s':c_):Prop:=∃v H',Inv X pz σ H' s'/\av v u/\Q v H'
def TP(X:Cx)(pz:List (Addr×Obj))(σ:St)(Q:Bool->Hp->Prop)(b:Bool)(s':c_):Prop:=∃H',Inv X pz σ H' s'/\Q b H'
def AP(X:Cx)(pz:List (Addr×Obj))(σ:St)(Q:List V->Hp->Prop)(us:List Value)(s':c_):Prop:=∃vs H',Inv X pz σ H' s'/\ar vs us/\Q vs H'
def SP(X:Cx)(pz:List (Addr×Obj))(D:Ends)(f:Flow)(s':c_):Prop:=match f with
|.next=>∃σ' H',Inv X pz σ' H' s'/\D.nx σ' H'
|.brk=>∃σ' H',Inv X pz σ' H' s'/\D.bk σ' H'
|.cont=>∃σ' H',Inv X pz σ' H' s'/\D.ct σ' H'
|.ret u=>∃v σ' H',Inv X pz σ' H' s'/\av v u/\D.rt v H'
def PE(X:Cx)(e:Expr)(t:TE):Prop:=∀(pz:List (Addr×Obj))(s:c_)(σ:St)(H:Hp)(Q:VK),Inv X pz σ H s->t σ H Q->p_ (u_ X.prog X.w) X.A (eval e X.env) (EP X pz σ Q) X.xe s
def PT(X:Cx)(e:Expr)(t:TT):Prop:=∀(pz:List (Addr×Obj))(s:c_)(σ:St)(H:Hp)(Q:Bool->Hp->Prop),Inv X pz σ H s->t σ H Q->p_ (u_ X.prog X.w) X.A (isTrue e X.env (eval e X.env)) (TP X pz σ Q) X.xe s
def PW(X:Cx)(e:Expr)(t:TT):Prop:=∀(whole:Sem Value)(pz:List (Addr×Obj))(s:c_)(σ:St)(H:Hp)(Q:Bool->Hp->Prop),Inv X pz σ H s->t σ H Q->p_ (u_ X.prog X.w) X.A (isTrue e X.env whole) (TP X pz σ Q) X.xe s
theorem PW.pt(h:PW X e t):PT X e t:=h _
def PA(X:Cx)(es:List Expr)(t:TA):Prop:=∀(pos:Pos)(pz:List (Addr×Obj))(s:c_)(σ:St)(H:Hp)(Q:List V->Hp->Prop),Inv X pz σ H s->t σ H Q->p_ (u_ X.prog X.w) X.A (spliced (backTo pos (f_ es X.env))) (AP X pz σ Q) X.xe s
def PS(X:Cx)(st:Stmt)(t:TS):Prop:=∀(pz:List (Addr×Obj))(s:c_)(σ:St)(H:Hp)(D:Ends),Inv X pz σ H s->t D σ H->p_ (u_ X.prog X.w) X.A (exec st X.env) (SP X pz D) X.xe s
def dI(X:Cx)(st:List Stmt)(t:TS):Prop:=∀(pz:List (Addr×Obj))(s:c_)(σ:St)(H:Hp)(D:Ends),Inv X pz σ H s->t D σ H->p_ (u_ X.prog X.w) X.A (execs st X.env) (SP X pz D) X.xe s
theorem aW{Q U:L->c_->Prop}{s:c_}(h:p_ M A t Q E s)(Y:∀a s,Q a s->U a s):p_ M A t U E s:=Z8 h Y fun _ _ x=>x
variable{b:Expr}{ta tb:TE}{pos:Pos}
section
def C7(i:Nat):TE:=fun σ H Q=>∃v,σ[i]? = some (some v)/\Q v H
def tC(v:V):TE:=fun _ H Q=>Q v H
theorem lq(hN:X.N[i]? = some x)(f:ik X.env.scope x)(Z:(x==("__debug__" : Str))=false:=by decide)(L:(x==("__classdict__" : Str))=false:=by decide):PE X (.Name x pos) (C7 i):=by
 intro d s b H Q I h;obtain⟨v,e,h⟩:=h;obtain⟨m,g,k⟩:=I.loc;obtain⟨u,r,l⟩:=k i x v hN e f;have fin:EP X d b Q u s:=⟨v,H,I,r,h⟩
 rcases l with⟨Y,j⟩|⟨Y,c,a,U⟩
 .exact Ž (wpAny_loadName_local I.ok.kind Y g j fin) Z
 .rcases Y with Y|Y
  .exact Ž (wpAny_loadName_cell I.ok.kind Y a U fin) Z
  .exact Ž (wpAny_loadName_free I.ok.kind Y a U fin L) Z
theorem Mj{i j pos}:PE X (.Constant (.int i) j pos) (tC (.int i)):=fun _ _ _ H _ I h=>Qd1 ⟨.int i,H,I.tok _,⟨_,rfl⟩,h⟩
theorem LK{b j pos}:PE X (.Constant (.bool b) j pos) (tC (.bl b)):=fun _ _ _ H _ I h=>Constant_bool ⟨.bl b,H,I,rfl,h⟩
theorem Fj{j pos}:PE X (.Constant .none j pos) (tC .non):=fun _ _ _ H _ I h=>Constant_none ⟨.non,H,I,rfl,h⟩
theorem Nv{x j pos}:PE X (.Constant (.str x) j pos) (tC (.str x)):=fun _ _ _ H _ I h=>Calls.Constant_str ⟨.str x,H,I.tok _,⟨_,rfl⟩,h⟩
def Gl(X:Cx)(x:Str):Prop:=X.env.kindOf x=some .globalImplicit
theorem yO{σ:St}{u:Value}{pos:Pos}{Q:Value->c_->Prop}(I:Inv X pz σ H s)(U:Gl X x)(L:X.mg x=some u)(h:Q u s)(Y:(x==("__debug__" : Str))=false:=by decide):p_ (u_ X.prog X.w) X.A (eval (.Name x pos) X.env) Q E s:=QbX I.ok.kind U (Calls.loadGlobal_global (by rw[I.ok.glob];exact I.mod.glob.keeps I.bk) L h) Y
theorem iq{E:Value->c_->Prop}{σ:St}{u:Value}{pos:Pos}{Q:Value->c_->Prop}(I:Inv X pz σ H s)(Z:Gl X x)(Y:X.mg x=none)(L:Ï x=some u)(h:Q u s)(U:x≠"__name__" := by decide)(a:(x==("__debug__" : Str))=false:=by decide):p_ (u_ X.prog X.w) X.A (eval (.Name x pos) X.env) Q E s:=by obtain⟨d,c,b⟩:=I.mod.blt;exact QbX I.ok.kind Z (Calls.loadGlobal_builtin (by rw[I.ok.glob];exact I.mod.glob.keeps I.bk) Y (by rw[I.ok.blt];exact c.keeps I.bk) ((b x U).trans L) h) a
theorem GF(U:Gl X x)(L:X.mg x=some u)(r:av v u)(Y:(x==("__debug__" : Str))=false:=by decide):PE X (.Name x pos) (tC v):=fun _ _ _ H _ I h=>yO I U L ⟨v,H,I,r,h⟩ Y
theorem yW(Z:Gl X x)(Y:X.mg x=none)(L:Ï x=some u)(r:av v u)(U:x≠"__name__" := by decide)(a:(x==("__debug__" : Str))=false:=by decide):PE X (.Name x pos) (tC v):=fun _ _ _ H _ I h=>iq I Z Y L ⟨v,H,I,r,h⟩ U a
variable{a:Expr}
variable{tA tB':TT}{rest:List Expr}
def Dj(t u:TT):TT:=fun σ H Q=>t σ H fun c H1=>if c=true then u σ H1 Q else Q false H1
def VT(t u:TT):TT:=fun σ H Q=>t σ H fun c H1=>if c=true then Q true H1 else u σ H1 Q
def Db(t:TT):TT:=fun σ H Q=>t σ H fun c H1=>Q (! c) H1
theorem Oz(Y:PT X a tA):PW X (.BoolOp .And [a] pos) tA:=by intro Z U s L H Q I h;refine isTrue_and (aW (Y U s L H Q I h) fun c b e=>?_);cases c with
|true=>exact isTrue_and_nil e
|false=>exact e
theorem Nc(Y:PT X a tA):PW X (.BoolOp .Or [a] pos) tA:=by intro Z U s L H Q I h;refine isTrue_or (aW (Y U s L H Q I h) fun c b e=>?_);cases c with
|false=>exact isTrue_or_nil e
|true=>exact e
theorem Nb(g:PT X a tA)(f:PW X (.BoolOp .And (b::rest) pos) tB'):PW X (.BoolOp .And (a::b::rest) pos) (Dj tA tB'):=by intro d U s L H Q I h;refine isTrue_and (aW (g U s L H _ I h) fun c e ⟨Z,Y,q1⟩=>?_);cases c with
|true=>exact f d U e L Z Q Y q1
|false=>exact⟨Z,Y,q1⟩
theorem LV(g:PT X a tA)(f:PW X (.BoolOp .Or (b::rest) pos) tB'):PW X (.BoolOp .Or (a::b::rest) pos) (VT tA tB'):=by intro d U s L H Q I h;refine isTrue_or (aW (g U s L H _ I h) fun c e ⟨Z,Y,q1⟩=>?_);cases c with
|true=>exact⟨Z,Y,q1⟩
|false=>exact f d U e L Z Q Y q1
theorem Na(Y:PT X a tA):PT X (.UnaryOp .Not a pos) (Db tA):=by intro U s L H Q I h;exact isTrue_not (Y U s L H _ I h)
def Lu(ta tb:TE):TE:=fun σ H Q=>ta σ H fun x H1=>∃c,x=.bl c/\if c=true then tb σ H1 Q else Q (.bl false) H1
def LA(ta:TE):TE:=fun σ H Q=>ta σ H fun x H1=>∃c,x=.bl c/\Q (.bl (! c)) H1
theorem Nu{op}(h:PE X a t):PE X (.BoolOp op [a] pos) t:=fun U s L H Q I Y=>BoolOp_one (h U s L H Q I Y)
theorem Mh(g:PE X a ta)(f:PE X (.BoolOp .And (b::rest) pos) tb):PE X (.BoolOp .And (a::b::rest) pos) (Lu ta tb):=by intro U s L H Q I h;refine BoolOp_and (aW (g U s L H _ I h) fun v d k=>?_);obtain⟨x,Z,Y,e,q1⟩:=k;obtain⟨c,rfl,q1⟩:=q1;cases e;refine Zy ?_;cases c with
|true=>exact f U d L Z Q Y q1
|false=>exact⟨.bl false,Z,Y,rfl,q1⟩
theorem Nt(Z:PE X a ta):PE X (.UnaryOp .Not a pos) (LA ta):=by intro Y s L H Q I h;refine UnaryOp_ (aW (Z Y s L H _ I h) fun v e k=>?_);obtain⟨x,d,b,U,q1⟩:=k;obtain⟨c,rfl,q1⟩:=q1;cases U;exact not_of (Zy ⟨.bl (! c),d,b,rfl,q1⟩)
end
def bp(K:W.Frag)(H:Hp)(a:Addr)(xs:List V):Prop:=Rd H a (.lst xs) \/∃(o:Obj)(its:Array Value)(n:Nat),K.lookup a=some o/\o.cls=.type "list"/\o.dict=none/\o.data=.seq its n/\its.size<=sizeLine/\ar xs its.toList
def cg(K:W.Frag)(H:Hp)(a:Addr)(xs:List V):Prop:=Rd H a (.tup xs) \/∃(o:Obj)(its:Array Value)(n:Nat),K.lookup a=some o/\o.cls=.type "tuple"/\o.data=.seq its n/\its.size<=sizeLine/\ar xs its.toList
def DO:Value->Option V
|.none=>some .non
|.bool b=>some (.bl b)
|.int i _=>some (.int i)
|.str x _=>some (.str x)
|.bytes b _=>some (.byt b)
|.float b _=>some (.flt b)
|.ref a=>some (.ref a)
|.type n=>some (.ty n)
|_=>none
theorem av.abs(r:av x u):DO u=some x:=by cases x with
|non=>cases r;rfl
|bl _=>cases r;rfl
|int _=>obtain⟨t,rfl⟩:=r;rfl
|str _=>obtain⟨t,rfl⟩:=r;rfl
|byt _=>obtain⟨t,rfl⟩:=r;rfl
|flt _=>obtain⟨t,rfl⟩:=r;rfl
|ref _=>cases r;rfl
|ty _=>cases r;rfl
theorem av.inj(r:av x u)(q:av y u):x=y:=K_ (r.abs.symm.trans q.abs)
theorem ar.inj(h:ar xs U)(h':ar L U):xs=L:=by induction h generalizing L with
|nil=>cases h';rfl
|cons r t a=>cases h' with
 |cons Z Y=>rw[r.inj Z,a Y]
variable{σ:St}
section
variable{xs ys:List V}
theorem bp.of{K:W.Frag}(h:H a=some (.lst xs)):bp K H a xs:=.inl (.inl h)
theorem Inv.list(I:Inv X pz σ H s)(h:bp X.K H a xs):∃its:List Value,ar xs its/\PlainL s.heap a its.toArray/\xs.length<=sizeLine:=by
 rcases h with h|⟨o,its,n,U,Z,Y,L,b,r⟩
 .obtain⟨z,its,n,r,e⟩:=h.ok I.hok;exact⟨its,r,⟨_,n,e,rfl,rfl,rfl⟩,z⟩
 .refine⟨its.toList,r,⟨o,n,I.kIn a o U,Z,Y,by simpa using L⟩,?_⟩;have e:=r.length
  grind
theorem Inv.tuple(I:Inv X pz σ H s)(h:cg X.K H a xs):∃its:List Value,ar xs its/\ã s.heap a its.toArray/\xs.length<=sizeLine:=by
 rcases h with h|⟨o,its,n,U,Y,L,Z,r⟩
 .obtain⟨z,its,r,p,_⟩:=h.ok I.hok
  grind
 .refine⟨its.toList,r,⟨o,I.kIn a o U,Y,n,by simpa using L⟩,?_⟩;have e:=r.length
  grind
theorem Inv.list_inj(I:Inv X pz σ H s)(h:bp X.K H a xs)(h':bp X.K H a ys):xs=ys:=by
 obtain⟨U,r,⟨o,n,e,_,_,d⟩,_⟩:=I.list h;obtain⟨L,Y,⟨b,c,Z,_,_,f⟩,_⟩:=I.list h';rw[e]at Z;have:U=L:=by simp_all
 subst this;exact r.inj Y
theorem Inv.tuple_inj(I:Inv X pz σ H s)(h:cg X.K H a xs)(h':cg X.K H a ys):xs=ys:=by
 obtain⟨U,r,⟨o,e,_,n,d⟩,_⟩:=I.tuple h;obtain⟨L,Y,⟨b,Z,_,c,f⟩,_⟩:=I.tuple h';rw[e]at Z;have:U=L:=by simp_all
 subst this;exact r.inj Y
end
abbrev Cx.wish(X:Cx)(E:Value->c_->Prop):Cx:={ X with xe:=E }
abbrev Cx.nox(X:Cx):Cx:=X.wish fun _ _=>False
theorem Cx.Ok.wish(L:X.Ok)(E:Value->c_->Prop):(X.wish E).Ok:=⟨L.mod,L.kind,L.glob,L.blt,L.above,L.inj,L.has,L.cab,L.hd,L.frames,L.stk,L.exf,L.bs,L.bsz,L.noex,L.exfs,L.funs,L.frf⟩
theorem Cx.Ok.unwish(L:(X.wish E).Ok):X.Ok:=⟨L.mod,L.kind,L.glob,L.blt,L.above,L.inj,L.has,L.cab,L.hd,L.frames,L.stk,L.exf,L.bs,L.bsz,L.noex,L.exfs,L.funs,L.frf⟩
variable{E:Value->c_->Prop}
theorem Inv.wish(I:Inv X pz σ H s)(E:Value->c_->Prop):Inv (X.wish E) pz σ H s:=⟨I.ok.wish E,I.os,I.bare,I.base,I.loc,I.cell,I.free,I.freeC,I.pin,I.hok,I.len⟩
theorem Inv.unwish(I:Inv (X.wish E) pz σ H s):Inv X pz σ H s:=⟨I.ok.unwish,I.os,I.bare,I.base,I.loc,I.cell,I.free,I.freeC,I.pin,I.hok,I.len⟩
theorem SP.unwish(h:SP (X.wish E) pz D f Y):SP X pz D f Y:=by cases f with
|next=>obtain⟨L,U,I,q⟩:=h;exact⟨L,U,I.unwish,q⟩
|brk=>obtain⟨L,U,I,q⟩:=h;exact⟨L,U,I.unwish,q⟩
|cont=>obtain⟨L,U,I,q⟩:=h;exact⟨L,U,I.unwish,q⟩
|ret u=>obtain⟨v,L,U,I,r,q⟩:=h;exact⟨v,L,U,I.unwish,r,q⟩
theorem dI.nox{st:List Stmt}(h:dI X.nox st t):dI X st t:=fun U s L H D I Y=>Z8 (h U s L H D (I.wish _) Y) (fun _ _ q=>q.unwish) fun _ _ z=>ZU z
variable{e:Expr}{te:TE}
section
variable{st:Stmt}{rest:List Stmt}{t u:TS}
def Lz:TS:=fun D σ H=>D.nx σ H
def C9(t u:TS):TS:=fun D σ H=>t { D with nx:=u D } σ H
theorem GJ:dI X [] Lz:=fun _ _ L H _ I h=>Ű ⟨L,H,I,h⟩
theorem zx(b:PS X st t)(a:dI X rest u):dI X (st::rest) (C9 t u):=by intro U s Y H D I h;refine wpAny_execs_cons (aW (b U s Y H { D with nx:=u D } I h) fun f Z q=>?_);cases f with
|next=>obtain⟨L,d,c,q⟩:=q;exact a U Z L d D c q
|ret v=>exact q
|brk=>exact q
|cont=>exact q
theorem Inv.quiet(I:Inv X pz σ H s):interactive X.env=false:=by simp[interactive,I.ok.kind]
def Lx(te:TE):TS:=fun D σ H=>te σ H fun _ H1=>D.nx σ H1
theorem GI(Y:PE X e te)(hs:ï e none pos.line X.env=pure false:=by rfl):PS X (.Expr e pos) (Lx te):=by intro U s L H D I h;exact wpAny_Expr_any (aW (Y U s L H _ I h) fun v b k=>by obtain⟨x,a,Z,c,q1⟩:=k;exact ⟨L,a,Z,q1⟩) I.quiet hs
def Da(te:TE):TS:=fun D σ H=>te σ H D.rt
theorem oM(Z:PE X e te):PS X (.Return (some e) pos) (Da te):=by intro Y s L H D I h;exact wpAny_Return_some (aW (Z Y s L H _ I h) fun v c k=>by obtain⟨x,b,a,U,q1⟩:=k;exact ⟨x,L,b,a,U,q1⟩)
def Df(c:TT)(t u:TS):TS:=fun D σ H=>c σ H fun b H1=>if b=true then t D σ H1 else u D σ H1
theorem LS{a b:List Stmt}(g:PT X c Y)(j:dI X a t)(i:dI X b u):PS X (.If c a b pos) (Df Y t u):=by intro U s L H D I h;refine wpAny_If (aW (g U s L H _ I h) fun d Z ⟨f,e,q1⟩=>?_);cases d with
|true=>exact j U Z L f D e q1
|false=>exact i U Z L f D e q1
def FV:TS:=fun _ _ _=>False
theorem QO:PS X st FV:=fun _ _ _ _ _ _ h=>h.elim
theorem Iy:dI X L FV:=fun _ _ _ _ _ _ h=>h.elim
end
abbrev TG:=V->St->Hp->(St->Hp->Prop)->Prop
abbrev j8:=List V->St->Hp->(St->Hp->Prop)->Prop
def PG(X:Cx)(target:Expr)(t:TG):Prop:=∀(pz:List (Addr×Obj))(s:c_)(σ:St)(H:Hp)(v:V)(u:Value)(Q:St->Hp->Prop),Inv X pz σ H s->av v u->t v σ H Q ->p_ (u_ X.prog X.w) X.A (ý target X.env u) (fun _ s'=>∃σ' H',Inv X pz σ' H' s'/\Q σ' H') X.xe s
def jM(X:Cx)(ts:List Expr)(t:j8):Prop:=∀(pz:List (Addr×Obj))(s:c_)(σ:St)(H:Hp)(vs:List V)(us:List Value)(Q:St->Hp->Prop),Inv X pz σ H s->ar vs us->t vs σ H Q ->p_ (u_ X.prog X.w) X.A (assignInOrder ((Zz ts X.env).map (·.2)) us) (fun _ s'=>∃σ' H',Inv X pz σ' H' s'/\Q σ' H') X.xe s
abbrev kT:=V->V->V->Hp->(Hp->Prop)->Prop
def gC(X:Cx)(t:kT):Prop:=∀(pz:List (Addr×Obj))(s:c_)(σ:St)(H:Hp)(o i v:V)(ov iv u:Value)(Q:Hp->Prop),Inv X pz σ H s->av o ov->av i iv->av v u->t o i v H Q ->p_ (u_ X.prog X.w) X.A (setItem ov iv u) (fun _ s'=>∃H',Inv X pz σ H' s'/\Q H') X.xe s
def EA(i:Nat):TG:=fun v σ H Q=>Q (σ.set i (some v)) H
theorem Os(hN:X.N.Nodup)(U:X.N[i]? = some x)(L:je X.env.scope x)(Y:X.fn x=true\/X.env.scope.names.lookup x=some .local:=by first|exact .inl rfl|exact .inr rfl|assumption):PG X (.Name x pos) (EA i):=by intro c s a H v u Q I r h;exact Qeg (HI I hN U L r (fun b Z=>⟨_,H,Z,h⟩) Y)
def DJ:j8:=fun vs σ H Q=>vs=[]/\Q σ H
def Vl(t:TG)(u:j8):j8:=fun vs σ H Q=>∃v r,vs=v::r/\t v σ H fun σ' H'=>u r σ' H' Q
theorem Ot:jM X [] DJ:=by intro Z s L H U Y Q I r h;obtain⟨e,h⟩:=h;subst e;exact assignInOrder_nil ⟨L,H,I,h⟩
theorem QL(d:PG X e t)(c:jM X L u)(hs:(Zz (e::L) X.env).map (·.2)=ý e X.env::(Zz L X.env).map (·.2):=by rfl):jM X (e::L) (Vl t u):=by intro Y s Z H j l Q I r h;obtain⟨v,k,f,h⟩:=h;subst f;cases r with
|cons r b=>rw[hs];refine assignInOrder_cons (aW (d Y s Z H _ _ _ I r h) fun _ a z=>?_);obtain⟨U,i,g,q1⟩:=z;exact c Y a U i _ _ Q g b q1
def DH(K:W.Frag)(n:Nat)(t:j8):TG:=fun v σ H Q=>∃a xs,v=.ref a/\cg K H a xs/\xs.length=n/\t xs σ H Q
theorem Ny{k:Nat}(q:X.calm=true)(h:jM X U t)(m:(Zz U X.env).length=n:=by rfl)(L:(Zz U X.env).findIdx? (·.1)=none:=by rfl):PG X (.Tuple U k pos) (DH X.K n t):=by intro f s c H v u Q I r Y;obtain⟨a,d,w,l,p,Y⟩:=Y;subst w;cases r;obtain⟨g,Z,j,y⟩:=I.tuple l;refine assign_Tuple_tuple (I.ok.hd q) j (by simp[m,<-p,Z.length]) L fun z i=>?_;have x:=I.kept (t':=s.toks) fun b o e=>i b o (z_ (o_ e)) e;exact h f _ c H d _ Q x (by simpa using Z) Y
def DI(to ti:TE)(t:kT):TG:=fun v σ H Q=>to σ H fun o H1=>ti σ H1 fun i H2=>t o i v H2 fun H3=>Q σ H3
theorem Nx{o i:Expr}(g:PE X o Y)(j:PE X i Z)(hs:gC X t)(k:∀v,ý (.Subscript o i pos) X.env v=(do
   let ov <-ñ [v] (eval o X.env);let iv <-ñ [v,ov] (eval i X.env)
   Ą pos
   ñ [v,ov,iv] (setItem ov iv v)
   release [v,ov,iv] []):=by intro _;rfl):PG X (.Subscript o i pos) (DI Y Z t):=by intro U s L H v u Q I r h;rw[k];refine Q_a (YH (aW (g U s L H _ I h) fun ov b z=>?_));obtain⟨x,w,n,d,q1⟩:=z;refine Q_a (YH (aW (j U b L w _ n q1) fun iv a i=>?_));obtain⟨y,q,m,c,f⟩:=i;refine Q_a (ĸ (Q_a (YH (aW (hs U a L q x y v ov iv u _ m d c r f) fun _ s3 ⟨p,l,e⟩=>?_))));exact wpAny_release ⟨L,p,l,e⟩
def qh(te:TE)(g:TG):TS:=fun D σ H=>te σ H fun x H1=>g x σ H1 D.nx
theorem Fo(f:PE X e Y)(d:PG X L g)(hs:ŷ [L] e pos.line X.env=pure false:=by rfl)(c:Ÿ [L] e X.env=pure none:=by rfl)(i:(Zz [L] X.env).map (·.2)=[ý L X.env]:=by rfl):PS X (.Assign [L] e pos) (qh Y g):=by intro Z s U H D I h;refine wpAny_Assign_stores (aW (f Z s U H _ I h) fun v a z=>?_) hs c;obtain⟨x,k,j,b,q1⟩:=z;rw[i];exact aW (d Z a U k x v _ j b q1) fun _ l q=>q
theorem wS(hN:X.N.Nodup)(c:X.N[i]? = some x)(b:je X.env.scope x)(f:PE X e U)(hs:ï e (some (.Name x L)) pos.line X.env=pure false:=by rfl)(d:X.fn x=true\/X.env.scope.names.lookup x=some .local:=by first|exact .inl rfl|exact .inr rfl|assumption):PS X (.Assign [.Name x L] e pos) (qh U (EA i)):=by intro a s Y H D I h;refine wpAny_Assign_Name (aW (f a s Y H _ I h) fun v m z=>?_) hs;obtain⟨y,k,j,Z,q1⟩:=z;exact HI j hN c b Z (fun l g=>⟨_,k,g,q1⟩) d
def M6(c:TT)(tb:TS):TS:=fun D σ H=>∃W:Nat->St->Hp->Prop,(∃m,W m σ H)/\∀m σ H,W m σ H ->c σ H fun b H1=>if b=true then ∃N:St->Hp->Prop,(∀σ' H',N σ' H'->∃m',m'<m/\W m' σ' H')/\tb { D with nx:=N,ct:=N,bk:=D.nx } σ H1 else D.nx σ H1
theorem QP{tb:TS}(q:ā (u_ X.prog X.w) X.A X.env X.xe)(J:PT X c p)(K:dI X Z tb):PS X (.While c Z [] pos) (M6 p tb):=by
 intro j s y H D I h;obtain⟨W,⟨G,B⟩,L⟩:=h;refine wpAny_While (codeAny_whileLoop (fun n F=>∃a x,Inv X j a x F/\W n a x) ?_ G ⟨y,H,I,B⟩)
 rintro n E ⟨Y,u,M,z⟩
 refine Ê q (aW (J j E Y u _ M (L n Y u z)) fun b C ⟨t,r,g⟩=>?_);cases b with
|true=>obtain⟨N,hN,g⟩:=g;rw[Q_e rfl];refine Ê q (aW (K j C Y t _ r g) fun f s3 e=>?_);cases f with
 |next=>obtain⟨U,d,o,k⟩:=e;obtain⟨l,m,i⟩:=hN U d k;exact⟨l,m,U,d,o,i⟩
 |cont=>obtain⟨U,d,o,k⟩:=e;obtain⟨l,m,i⟩:=hN U d k;exact⟨l,m,U,d,o,i⟩
 |brk=>exact e
 |ret v=>exact e
|false=>rw[Q_f y_];exact Ű ⟨Y,t,r,g⟩
structure It where
 go:Nat->Hp->Prop
 yld:Nat->Hp->V->Hp->Prop
 stop:Nat->Hp->Prop
def dG(X:Cx)(pz:List (Addr×Obj))(H:Hp)(b:Addr):Prop:=H b=none/\b≠X.env.locals/\b∉X.fs/\(b∈X.ex\/X.s₀.heap.objs.size<=b)/\(∀x c,X.env.cells.lookup x=some c->c≠b)/\∀p∈X.pn++pz,p.1≠b
theorem Inv.fpOk{b:Addr}(I:Inv X pz σ H s)(L:s.heap.objs.size<=b)(Z:U b=none):dG X pz U b:=by
 refine⟨Z,YS (B_ I.lt L),I.nofs L,.inr (Y1 I.sz L),fun x c e z=>?_,fun p Y z=>?_⟩
 .obtain⟨v,q⟩:=I.cell x c e;exact Q_g (B_ q.lt (by rw[z];exact L)) (YY _)
 .exact Q_g (B_ (o_ (I.pin p Y).1) (by rw[z];exact L)) (YY _)
structure Turn(P:C_)(w:S_)(K:W.Frag)(tg:Expr)(J:It)(fp:List Addr)(it:Addr)(tn:Nat->Heap->Prop):Prop where
 mem:it∈fp
 obj:∀i h,tn i h->∀b∈fp,∃o,h.get? b=some o/\∀v,o.data≠.cell v
 keep:∀i h h',tn i h->(∀b∈fp,∀o,h.get? b=some o->h'.get? b=some o)->tn i h'
 item:∀(X:Cx),X.prog=P->X.w=w->X.K=K->X.calm=true->∀(i:Nat)(pz:List (Addr×Obj))(s:c_)(σ:St)(H:Hp)(E:Value->c_->Prop),Inv X pz σ H s->(∀b∈fp,dG X pz H b)->tn i s.heap->J.go i H ->p_ (u_ P w) X.A (å (.ref it)) (fun r s1=>∃u,r=some u /\p_ (u_ P w) X.A (ű tg (.ref it) u) (fun _ s2=>∃x H',Inv X pz σ H' s2/\av x u/\J.yld i H x H'/\tn (i+1) s2.heap/\∀b∈fp,H' b=none) E s1) E s
 done:∀(X:Cx),X.prog=P->X.w=w->X.K=K->X.calm=true->∀(i:Nat)(pz:List (Addr×Obj))(s:c_)(σ:St)(H:Hp)(E:Value->c_->Prop),Inv X pz σ H s->(∀b∈fp,dG X pz H b)->tn i s.heap->J.stop i H ->p_ (u_ P w) X.A (å (.ref it)) (fun r s1=>r=none/\Inv X pz σ H s1) E s
 self:∀(A:T_)(i:Nat)(s:c_)(Q:Value->c_->Prop)(E:Value->c_->Prop),tn i s.heap->Q (.ref it) s->p_ (u_ P w) A (ö (.ref it)) Q E s
abbrev TI:=St->Hp->(It->Hp->Prop)->Prop
def K6(X:Cx)(pz:List (Addr×Obj))(σ:St)(tg:Expr)(R:It->Hp->Prop)(itv:Value)(s2:c_):Prop:=∃(it:Addr)(fp:List Addr)(tn:Nat->Heap->Prop)(J:It)(H':Hp),itv=.ref it/\Inv X pz σ H' s2/\Turn X.prog X.w X.K tg J fp it tn/\tn 0 s2.heap/\(∀b∈fp,dG X pz H' b)/\R J H'
def PI(X:Cx)(tg iter:Expr)(wi:TI):Prop:=∀(pz:List (Addr×Obj))(s:c_)(σ:St)(H:Hp)(R:It->Hp->Prop),Inv X pz σ H s->wi σ H R ->p_ (u_ X.prog X.w) X.A (eval iter X.env) (fun v s1=>p_ (u_ X.prog X.w) X.A (ö v) (K6 X pz σ tg R) X.xe s1) X.xe s
theorem qW{u:Value}{o:Obj}{n:String}{vs:Array Value}{Q:Unit->c_->Prop}(Z:s.heap.get? Y=some o)(b:o.cls=.type n)(a:o.data=.fields vs)(c : ["enumerate","zip","dict_itemiterator","dict_reverseitemiterator","odict_iterator","itertools.zip_longest","itertools.pairwise"].contains n=false)(L:Q () s):p_ M A (ű U (.ref Y) u) Q E s:=by
  cases U <;> first
    |exact e_ L
    |(cases u <;> first
        |exact e_ L
        | (refine Q_a (ž Z ?_)
           rw[b,a];show p_ M A (if (["enumerate","zip","dict_itemiterator","dict_reverseitemiterator","odict_iterator","itertools.zip_longest","itertools.pairwise"].contains n&&vs[0]? == some _)=true then _ else _) Q E s;rw[Q_f (by grind)];exact e_ L))
def qR(K:W.Frag)(a:Addr):It:=⟨fun i H=>∃xs x,bp K H a xs/\xs[i]? = some x,fun i H x H'=>H'=H/\∀xs,bp K H a xs->xs[i]? = some x,fun i H=>∃xs,bp K H a xs/\xs.length<=i⟩
def DY(K:W.Frag)(a:Addr):It:=⟨fun i H=>∃xs x,cg K H a xs/\xs[i]? = some x,fun i H x H'=>H'=H/\∀xs,cg K H a xs->xs[i]? = some x,fun i H=>∃xs,cg K H a xs/\xs.length<=i⟩
def uU(lo:Int)(n:Nat):It:=⟨fun i _=>i<n,fun i H x H'=>H'=H/\x=.int (lo+i),fun i _=>n<=i⟩
theorem Sa{K:W.Frag}(a Y:Addr):Turn P w K F (qR K a) [Y] Y (fun i h=>h.IsListIter Y a i) where
 mem:=by simp
 obj:=fun i h L b U=>by
  have e:=by simpa using U
  obtain⟨o,e,c,d⟩:=L
  grind
 keep:=fun i h A L k=>L.at fun o e=>k Y (by simp) o e
 item:=by intro X r n t z i M s B H E I g L q;subst r n t;obtain⟨C,x,f,m⟩:=q;obtain⟨l,j,p,N⟩:=I.list f;obtain⟨u,Q,J⟩:=j.get m;obtain⟨y,f1,f2,f3,f4,v⟩:=g Y (by simp);refine wpAny_pyNext_list_item L p.isList (by simpa using Q) fun A Z G=>?_;have S:=I.turned (t':=s.toks) (fun b o U e=>(G.2 b U).trans e) y f1 f3 f4 v;obtain⟨o,e,c,d⟩:=id Z;exact⟨u,rfl,qW e c d (rfl) ⟨x,H,S,J,⟨rfl,fun T O=>by rw[I.list_inj O f];exact m⟩,Z,fun b U=>(g b U).1⟩⟩
 done:=by intro X r n t z i M s B H E I g L q;subst r n t;obtain⟨C,f,m⟩:=q;obtain⟨l,j,p,N⟩:=I.list f;obtain⟨y,f1,f2,f3,f4,v⟩:=g Y (by simp);have hl:=j.length;exact wpAny_pyNext_list_end (I.ok.hd z) L p.isList (by simp;omega) fun A R=>⟨rfl,I.turned (fun b o U e=>R b o U e) y f1 f3 f4 v⟩
 self:=fun _ _ _ _ _ L h=>wpAny_pyIter_listiter L h
theorem SU{K:W.Frag}(a Y:Addr):Turn P w K F (DY K a) [Y] Y (fun i h=>h.IsTupleIter Y a i) where
 mem:=by simp
 obj:=fun i h L b U=>by
  have e:=by simpa using U
  obtain⟨o,e,c,d⟩:=L;simp_all
 keep:=fun i h A L k=>L.at fun o e=>k Y (by simp) o e
 item:=by intro X r n t z i M s B H E I g L q;subst r n t;obtain⟨C,x,f,m⟩:=q;obtain⟨l,j,p,N⟩:=I.tuple f;obtain⟨u,Q,J⟩:=j.get m;obtain⟨y,f1,f2,f3,f4,v⟩:=g Y (by simp);refine wpAny_pyNext_tuple_item L (p) (by simpa using Q) fun A Z G=>?_;have S:=I.turned (t':=s.toks) (fun b o U e=>(G.2 b U).trans e) y f1 f3 f4 v;obtain⟨o,e,c,d⟩:=id Z;exact⟨u,rfl,qW e c d (rfl) ⟨x,H,S,J,⟨rfl,fun T O=>by rw[I.tuple_inj O f];exact m⟩,Z,fun b U=>(g b U).1⟩⟩
 done:=by intro X r n t z i M s B H E I g L q;subst r n t;obtain⟨C,f,m⟩:=q;obtain⟨l,j,p,N⟩:=I.tuple f;obtain⟨y,f1,f2,f3,f4,v⟩:=g Y (by simp);have hl:=j.length;exact wpAny_pyNext_tuple_end (I.ok.hd z) L (p) (by simp;omega) fun A R=>⟨rfl,I.turned (fun b o U e=>R b o U e) y f1 f3 f4 v⟩
 self:=fun _ _ _ _ _ L h=>wpAny_pyIter_tupleiter L h
theorem SR{K:W.Frag}(U:Addr)(lo:Int)(n:Nat):Turn P w K x (uU lo n) [U] U (fun i h=>IsRangeIter h U (lo+(i:Nat)*1) ((n:Int)-(i:Nat)) 1) where
 mem:=by simp
 obj:=fun i h L b a=>by simp_all
 keep:=fun i h f L k=>k U (by simp) _ L
 item:=by intro X q p r d i m s l H E I Z L c;subst q p r;obtain⟨j,f1,f2,f3,f4,g⟩:=Z U (by simp);have W:=Walks.range (prog:=X.prog) (w:=X.w) (I.ok.hd d) U lo 1 n;refine W.item i s _ _ c L fun v f u y Y B=>?_;obtain⟨t,rfl⟩:=y;have A:Inv X m l H { s with heap:=f,toks:=u }:=I.turned (by simp_all) j f1 f3 f4 g;refine⟨_,rfl,qW Y rfl rfl (rfl) ⟨.int _,H,A,⟨t,?_⟩,⟨rfl,rfl⟩,Y,fun b a=>(Z b a).1⟩⟩;rw[Int.mul_one]
 done:=by intro X q p r d i m s l H E I Z L c;obtain⟨j,f1,f2,f3,f4,g⟩:=Z U (by simp);exact wpAny_pyNext_range_end (I.ok.hd d) L (by have:n<=i:=c;omega) fun f z=>⟨rfl,I.turned (fun b o a e=>z b o a e) j f1 f3 f4 g⟩
 self:=fun _ _ _ _ _ L h=>wpAny_pyIter_rangeiter L h
section
variable{tg:Expr}
theorem QU{lo L:Int}{t u v:Tok}{Y:Nat}(I:Inv X pz σ H s)(f : -(2^62)<=lo)(d:lo<2^62)(c : -(2^62)<=L)(a:L<2^62)(q:R (uU lo (L-lo).toNat) H):p_ (u_ X.prog X.w) X.A (ö (.ref s.heap.objs.size)) (K6 X pz σ tg R) E { s with heap:=s.heap.push { cls:=.type "range",data:=.fields #[.int lo t,.int L u,.int 1 v] },toks:=Y }:=by
 refine wpAny_pyIter_range (IsRange.new ..) (small_one f d c a) ?_;have U:Inv X pz σ H { s with heap:=s.heap.push { cls:=.type "range",data:=.fields #[.int lo t,.int L u,.int 1 v] },toks:=Y }:=I.kept fun b o e=>a_ _ e;refine⟨_,_,_,_,H,rfl,U.kept fun b o e=>a_ _ e,SR _ lo (L-lo).toNat,?_,fun b Z=>?_,q⟩
 .have e1:lo+((0:Nat))*1=lo:=by simp
  have g:(((L-lo).toNat))-((0:Nat))=QcE lo L 1:=by rw[rangeSize_one];split <;> omega
  rw[e1,g];exact i_ _ rfl
 .have e:b=(s.heap.push { cls:=.type "range",data:=.fields #[.int lo t,.int L u,.int 1 v] }).objs.size:=by simpa using Z
  subst e;exact U.fpOk (q_ _) (U.hok.fresh (q_ _))
def Vm(ta:TA):TI:=fun σ H R=>ta σ H fun vs H1=>∃j:Int,vs=[.int j]/\-(2^62)<=j/\j<2^62/\R (uU 0 j.toNat) H1
theorem RP{a:Expr}(f:Gl X "range")(d:X.mg "range" = none)(g:PA X [a] L)(hs:f_ [a] X.env=[(false,eval a X.env)]:=by rfl):PI X tg (.Call (.Name "range" p) [a] [] pos) (Vm L):=by intro c s U H R I h;refine Call_ (iq I f d boot_range (YD (aW (g pos c s U H _ I h) fun l m z=>?_) hs rfl));obtain⟨k,n,i,Z,q1⟩:=z;obtain⟨j,e,q1,b,q⟩:=q1;subst e;cases Z with
|cons r Y=>cases Y;obtain⟨t,rfl⟩:=r;exact call_range_1 (QU i (by decide) (by decide) q1 b (by simpa using q))
def Dg(wi:TI)(g:TG)(tb:TS):TS:=fun D σ H=>wi σ H fun J H1=>∃W:Nat->Nat->St->Hp->Prop,(∃m,W 0 m σ H1)/\∀i m σ H,W i m σ H ->(J.stop i H/\D.nx σ H)\/(J.go i H/\∃N:St->Hp->Prop,(∀σ' H',N σ' H'->∃m',m'<m/\W (i+1) m' σ' H')/\∀x H',J.yld i H x H'->g x σ H' fun σ2 H2=>tb { D with nx:=N,ct:=N,bk:=D.nx } σ2 H2)
def rY(fp:List Addr)(h:Heap):List (Addr×Obj):=fp.filterMap fun b=>(h.get? b).map fun o=>(b,o)
theorem tF{b:Addr}{o:Obj}(L:b∈fp)(e:h.get? b=some o):(b,o)∈rY fp h:=Ė.mpr ⟨b,L,by rw[e];rfl⟩
theorem RK(L:p∈rY fp h):p.1∈fp/\h.get? p.1=some p.2:=by obtain⟨b,U,e⟩:=Ė.mp L;cases q:h.get? b with
|none=>rw[q]at e;cases e
|some o=>grind
theorem Inv.pinned(I:Inv X pz σ H s)(a:∀b∈fp,dG X pz H b)(Z:∀b∈fp,∃o,s.heap.get? b=some o/\∀v,o.data≠.cell v):Inv X (pz++rY fp s.heap) σ H s:=I.pins_of fun p Y=>(ZH.mp Y).elim (fun z=>I.pin p (YL _ z)) fun z=>by obtain⟨L,e⟩:=RK z;obtain⟨c,f1,f2,_⟩:=a p.1 L;obtain⟨o,U,d⟩:=Z p.1 L;rw[e]at U;cases U;exact⟨e,c,f1,f2,d⟩
theorem Inv.unpinned(I:Inv X (pz++L) σ H s):Inv X pz σ H s:=I.pins_of fun p U=>I.pin p (by simp_all)
theorem wR{tb:TS}(G:ā (u_ X.prog X.w) X.A X.env X.xe)(hc:X.calm=true)(hi:PI X tg j wi)(hg:PG X tg g)(k:dI X y tb)(hs:∀x,Zb j X.env x=pure x:=by intro _;rfl):PS X (.For tg j y [] pos) (Dg wi g tb):=by
 intro B s σ H D I h;refine wpAny_For (aW (hi B s σ H _ I h) fun v s1 h1=>aW h1 fun itv s2 h2=>?_) hs;obtain⟨it,M,tn,J,H2,e,I2,T,ac,f2,W,⟨m0,w0⟩,Y⟩:=h2;subst e;have U:∀{q:Hp},(∀b∈M,q b=none)->∀b∈M,dG X B q b:=fun hn b k=>⟨hn b k,(f2 b k).2⟩
 refine codeAny_forLoop_any (fun n s'=>∃i c q,Inv X B c q s'/\tn i s'.heap/\(∀b∈M,q b=none)/\W i n c q) ?_ m0 ⟨0,σ,H2,I2,ac,fun b k=>(f2 b k).1,w0⟩
 rintro n s3 ⟨i,a,O,I3,F,K,w3⟩
 rcases Y i n a O w3 with⟨C,qn⟩|⟨go,N,hN,E⟩
 .refine Ê G (aW (T.done X rfl rfl rfl hc i B s3 a O X.xe I3 (U K) F C) fun r s4 ⟨R,I4⟩=>?_);subst R;exact Ű ⟨a,O,I4,qn⟩
 .refine Ê G (aW (T.item X rfl rfl rfl hc i B s3 a O X.xe I3 (U K) F go) fun r s4 ⟨u,R,h4⟩=>?_);subst R;refine Ê G (aW h4 fun _ s5 y=>?_);obtain⟨x,H5,I5,r5,y5,z,S⟩:=y;have Z:=I5.pinned (U S) (T.obj _ _ z);refine Ê G (aW (hg _ s5 a H5 x u _ Z r5 (E x H5 y5)) fun _ s6 w=>?_);obtain⟨P,H6,I6,q6⟩:=w;refine Ê G (aW (k _ s6 P H6 _ I6 q6) fun f Q t=>?_);have l:∀{L:St}{p:Hp},Inv X _ L p Q->N L p->∃m,m<n/\∃i c q,Inv X B c q Q/\tn i Q.heap/\(∀b∈M,q b=none)/\W i m c q:=fun{L p} I7 n7=>by obtain⟨m',hm,w7⟩:=hN L p n7;refine⟨m',hm,i+1,L,p,I7.unpinned,T.keep _ _ _ z fun b k o e=>(I7.pin _ (YL _ (YL _ (tF k e)))).1,fun b k=>?_,w7⟩;obtain⟨o,e,d⟩:=T.obj _ _ z b k;exact(I7.pin _ (YL _ (YL _ (tF k e)))).2.1
  cases f with
 |next=>obtain⟨L,p,I7,n7⟩:=t;exact l I7 n7
 |cont=>obtain⟨L,p,I7,n7⟩:=t;exact l I7 n7
 |brk=>obtain⟨L,p,I7,t⟩:=t;exact⟨L,p,I7.unpinned,t⟩
 |ret v=>obtain⟨x7,L,p,I7,r7,t⟩:=t;exact⟨x7,L,p,I7.unpinned,r7,t⟩
end
abbrev R2:=V->V->Hp->VK->Prop
def br(X:Cx)(f:Value->Value->Sem Value)(r:R2):Prop:=∀(pz:List (Addr×Obj))(s:c_)(σ:St)(H:Hp)(x y:V)(v u:Value)(Q:VK),Inv X pz σ H s->av x v->av y u->r x y H Q ->p_ (u_ X.prog X.w) X.A (f v u) (EP X pz σ Q) X.xe s
def DP(X:Cx)(f:Value->Sem Value)(r:V->Hp->VK->Prop):Prop:=∀(pz:List (Addr×Obj))(s:c_)(σ:St)(H:Hp)(x:V)(v:Value)(Q:VK),Inv X pz σ H s->av x v->r x H Q ->p_ (u_ X.prog X.w) X.A (f v) (EP X pz σ Q) X.xe s
def dJ(X:Cx)(f:Value)(r:List V->Hp->VK->Prop):Prop:=∀(pz:List (Addr×Obj))(s:c_)(σ:St)(H:Hp)(xs:List V)(us:List Value)(Q:VK),Inv X pz σ H s->ar xs us->r xs H Q ->p_ (u_ X.prog X.w) X.A (call f us) (EP X pz σ Q) X.xe s
def DR(X:Cx)(r:V->Hp->(Bool->Hp->Prop)->Prop):Prop:=∀(pz:List (Addr×Obj))(s:c_)(σ:St)(H:Hp)(x:V)(v:Value)(Q:Bool->Hp->Prop),Inv X pz σ H s->av x v->r x H Q ->p_ (u_ X.prog X.w) X.A (truthy v) (TP X pz σ Q) X.xe s
def nX(r:R2)(ta tb:TE):TE:=fun σ H Q=>ta σ H fun x H1=>tb σ H1 fun y H2=>r x y H2 Q
def VR(r:V->Hp->VK->Prop)(ta:TE):TE:=fun σ H Q=>ta σ H fun x H1=>r x H1 Q
def rI(C:Int->Int->Prop)(g:Int->Int->V):R2:=fun x y H Q=>∃i j,x=.int i/\y=.int j/\C i j/\Q (g i j) H
def jy(g:Int->Int->V):R2:=fun x y H Q=>∃i j,x=.int i/\y=.int j/\Q (g i j) H
def rU(g:Int->V):V->Hp->VK->Prop:=fun x H Q=>∃i,x=.int i/\Q (g i) H
variable{c:Expr}{tc:TE}
section
variable{a:Expr}
theorem mM(l:PE X a ta)(k:PE X b tb){R:V->V->Hp->Prop}(I:Inv X pz σ H s)(h:ta σ H fun x c=>tb σ c fun y L=>R x y L){f:Value->Value->Sem Value}(j:∀v u Z x y L,Inv X pz σ L Z->av x v->av y u->R x y L->p_ (u_ X.prog X.w) X.A (f v u) Q X.xe Z):p_ (u_ X.prog X.w) X.A (eval a X.env) (fun v Y=>p_ (u_ X.prog X.w) X.A (eval b X.env) (fun u U=>p_ (u_ X.prog X.w) X.A (f v u) Q X.xe U) X.xe Y) X.xe s:=by refine aW (l pz s σ H _ I h) fun v d z=>?_;obtain⟨x,c,n,g,q1⟩:=z;refine aW (k pz d σ c _ n q1) fun u Z w=>?_;obtain⟨y,L,m,e,i⟩:=w;exact j v u Z x y L m g e i
theorem ET(e:br X (ZY L) r)(g:PE X a ta)(f:PE X b tb):PE X (.BinOp a L b pos) (nX r ta tb):=by intro d s U H Q I h;exact wpAny_BinOp (mM g f I h fun v u Y x y j i c Z q=>e d Y U j x y v u Q i c Z q)
theorem LP(c:DP X (unaryOp Y) r)(d:PE X a ta):PE X (.UnaryOp Y a pos) (VR r ta):=by intro U s L H Q I h;exact UnaryOp_ (aW (d U s L H _ I h) fun v Z k=>by obtain⟨x,f,e,b,q1⟩:=k;exact c U Z L f x v Q e b q1)
theorem nY{g:Int->Int->Int}(L:∀(i j:Int)(t u:Tok)(s:c_)(Q:Value->c_->Prop)(E:Value->c_->Prop),C i j->Q (.int (g i j) s.toks) { s with toks:=s.toks+1 }->p_ (u_ X.prog X.w) X.A (f (.int i t) (.int j u)) Q E s):br X f (rI C fun i j=>.int (g i j)):=by intro c s b H x y v u Q I Z Y h;obtain⟨i,j,rfl,rfl,a,q⟩:=h;obtain⟨t,rfl⟩:=Z;obtain⟨U,rfl⟩:=Y;exact L i j t U s _ _ a ⟨.int _,H,I.tok _,⟨_,rfl⟩,q⟩
theorem qD{g:Int->Int->Int}(L:∀(i j:Int)(t u:Tok)(s:c_)(Q:Value->c_->Prop)(E:Value->c_->Prop),Q (.int (g i j) s.toks) { s with toks:=s.toks+1 }->p_ (u_ X.prog X.w) X.A (f (.int i t) (.int j u)) Q E s):br X f (jy fun i j=>.int (g i j)):=by intro b s a H x y v u Q I Z Y h;obtain⟨i,j,rfl,rfl,q⟩:=h;obtain⟨t,rfl⟩:=Z;obtain⟨U,rfl⟩:=Y;exact L i j t U s _ _ ⟨.int _,H,I.tok _,⟨_,rfl⟩,q⟩
theorem kK{g:Int->Int->Bool}(L:∀(i j:Int)(t u:Tok)(s:c_)(Q:Value->c_->Prop)(E:Value->c_->Prop),Q (.bool (g i j)) s->p_ (u_ X.prog X.w) X.A (f (.int i t) (.int j u)) Q E s):br X f (jy fun i j=>.bl (g i j)):=by intro b s a H x y v u Q I Z Y h;obtain⟨i,j,rfl,rfl,q⟩:=h;obtain⟨t,rfl⟩:=Z;obtain⟨U,rfl⟩:=Y;exact L i j t U s _ _ ⟨.bl _,H,I,rfl,q⟩
def iS(i j:Int):Prop:=0<j/\j<1073741824
def kU(i j:Int):Prop:=0<=j/\j<=1000000/\i.natAbs<2^64
def hU(i j:Int):Prop:=(-(2^64)<i/\i<2^64)\/(-(2^64)<j/\j<2^64)
theorem hU.ok(h:hU i j):IntMulOk i j:=by
 rcases h with⟨U,L⟩|⟨U,L⟩
 .exact .of_left (intBits_le_64 U L)
 .exact .of_right (intBits_le_64 U L)
theorem Ff:br X (ZY .Add) (jy fun i j=>.int (i+j)):=qD fun _ _ _ _ _ _ _ q=>add_int q
theorem Mg:br X (ZY .Sub) (jy fun i j=>.int (i-j)):=qD fun _ _ _ _ _ _ _ q=>sub_int q
theorem Me:br X (ZY .Mult) (rI hU fun i j=>.int (i*j)):=nY fun _ _ _ _ _ _ _ L q=>mul_int q L.ok
theorem OZ:br X (ZY .FloorDiv) (rI iS fun i j=>.int (i/j)):=nY fun i j _ _ _ _ _ L q=>by have Y:(0:Int)<j:=L.1;have U:j<1073741824:=L.2;exact floordiv_int (by omega) (by rw[QbY i (by omega)];exact q) (.inl (PyProof.noPylong_small (by omega)))
theorem Mc:br X (ZY .Mod) (rI (fun _ j=>0<j) fun i j=>.int (i%j)):=nY fun i j _ _ _ _ _ L q=>by have U:(0:Int)<j:=L;exact mod_int' (by omega) (by rw[Int.fmod_eq_emod_of_nonneg i (by omega)];exact q)
theorem Mf:br X (ZY .Pow) (rI kU fun i j=>.int (i^j.toNat)):=nY fun _ _ _ _ _ _ _ L q=>pow_int_small L.1 L.2.1 L.2.2 q
theorem VP{g:Int->Int}(L:∀(i:Int)(t:Tok)(s:c_)(Q:Value->c_->Prop)(E:Value->c_->Prop),Q (.int (g i) s.toks) { s with toks:=s.toks+1 }->p_ (u_ X.prog X.w) X.A (f (.int i t)) Q E s):DP X f (rU fun i=>.int (g i)):=by intro Z s Y H x v Q I U h;obtain⟨i,rfl,q⟩:=h;obtain⟨t,rfl⟩:=U;exact L i t s _ _ ⟨.int _,H,I.tok _,⟨_,rfl⟩,q⟩
theorem On:DP X (unaryOp .USub) (rU fun i=>.int (-i)):=VP fun _ _ _ _ _ q=>neg_int q
end
def kB:V->V->Bool
|.non,.non=>true|.non,.int _=>true|.int _,.non=>true|.non,.bl _=>true|.bl _,.non=>true|.non,.str _=>true|.str _,.non=>true
|.int _,.int _=>true|.bl _,.bl _=>true|.str _,.str _=>true|.byt _,.byt _=>true
|.int _,.str _=>true|.str _,.int _=>true|.bl _,.str _=>true|.str _,.bl _=>true
|_,_=>false
def K0:R2:=fun x y H Q=>kB x y=true/\Q (.bl (decide (x=y))) H
def KZ:R2:=fun x y H Q=>kB x y=true/\Q (.bl (! decide (x=y))) H
theorem yA:decide (V.int i=V.int j)=(i==j):=by rw[YG];simp
theorem wE:decide (V.bl i=V.bl j)=(i==j):=by rw[YG];simp
theorem yB:decide (V.str i=V.str j)=(i==j):=by rw[YG];simp
theorem Gh:decide (V.byt i=V.byt j)=(i.toList==j.toList):=by rw[YG];cases i;cases j;simp
section
variable{a:Expr}
theorem cT(I:Inv X pz σ H s)(q:Q (.bl k) H)(e:k=k'):EP X pz σ Q (.bool k') s:=by subst e;exact⟨.bl k,H,I,rfl,q⟩
theorem Em:br X (YK .Eq) K0:=by intro b s a H x y v u Q I Z L h;obtain⟨Y,q⟩:=h;cases x with
|non=>cases Z;cases y with
 |non=>cases L;exact PySem.EqNone.eq_none_none (cT I q (rfl))
 |bl j=>cases L;exact PySem.EqNone.eq_none_bool (cT I q (rfl))
 |int j=>obtain⟨U,rfl⟩:=L;exact PySem.EqNone.eq_none_int (cT I q (rfl))
 |str j=>obtain⟨U,rfl⟩:=L;exact PySem.EqNone.eq_none_str (cT I q (rfl))
 |_=>exact Q_g (show false=true from Y) y_
|bl i=>cases Z;cases y with
 |non=>cases L;exact PySem.EqNone.eq_bool_none (cT I q (rfl))
 |bl j=>cases L;exact eq_bool (cT I q wE)
 |str j=>obtain⟨U,rfl⟩:=L;exact Qfl (cT I q (by simp))
 |_=>exact Q_g (show false=true from Y) y_
|int i=>obtain⟨t,rfl⟩:=Z;cases y with
 |non=>cases L;exact PySem.EqNone.eq_int_none (cT I q (by simp))
 |int j=>obtain⟨U,rfl⟩:=L;exact eq_int (cT I q yA)
 |str j=>obtain⟨U,rfl⟩:=L;exact Qfr (cT I q (rfl))
 |_=>exact Q_g (show false=true from Y) y_
|str i=>obtain⟨t,rfl⟩:=Z;cases y with
 |non=>cases L;exact PySem.EqNone.eq_str_none (cT I q (rfl))
 |bl j=>cases L;exact Qfm (cT I q (rfl))
 |int j=>obtain⟨U,rfl⟩:=L;exact Qfs (cT I q (rfl))
 |str j=>obtain⟨U,rfl⟩:=L;exact eq_str (cT I q yB)
 |_=>exact Q_g (show false=true from Y) y_
|byt i=>obtain⟨t,rfl⟩:=Z;cases y with
 |byt j=>obtain⟨U,rfl⟩:=L;exact W.eq_bytes (cT I q Gh)
 |_=>exact Q_g (show false=true from Y) y_
|_=>cases y <;> exact Q_g (show false=true from Y) y_
theorem VA:br X (YK .NotEq) KZ:=by intro b s a H x y v u Q I Z L h;obtain⟨Y,q⟩:=h;cases x with
|non=>cases Z;cases y with
 |non=>cases L;exact PySem.EqNone.ne_none_none (cT I q (rfl))
 |bl j=>cases L;exact PySem.EqNone.ne_none_bool (cT I q (rfl))
 |int j=>obtain⟨U,rfl⟩:=L;exact PySem.EqNone.ne_none_int (cT I q (rfl))
 |str j=>obtain⟨U,rfl⟩:=L;exact PySem.EqNone.ne_none_str (cT I q (rfl))
 |_=>exact Q_g (show false=true from Y) y_
|bl i=>cases Z;cases y with
 |non=>cases L;exact PySem.EqNone.ne_bool_none (cT I q (rfl))
 |bl j=>cases L;exact ne_bool (cT I q (Q_h not wE))
 |str j=>obtain⟨U,rfl⟩:=L;exact Qfn (cT I q (rfl))
 |_=>exact Q_g (show false=true from Y) y_
|int i=>obtain⟨t,rfl⟩:=Z;cases y with
 |non=>cases L;exact PySem.EqNone.ne_int_none (cT I q (rfl))
 |int j=>obtain⟨U,rfl⟩:=L;exact ne_int (cT I q (Q_h not yA))
 |str j=>obtain⟨U,rfl⟩:=L;exact Qft (cT I q (rfl))
 |_=>exact Q_g (show false=true from Y) y_
|str i=>obtain⟨t,rfl⟩:=Z;cases y with
 |non=>cases L;exact PySem.EqNone.ne_str_none (cT I q (rfl))
 |bl j=>cases L;exact Qfo (cT I q (rfl))
 |int j=>obtain⟨U,rfl⟩:=L;exact Qfu (cT I q (rfl))
 |str j=>obtain⟨U,rfl⟩:=L;exact ne_str (cT I q (Q_h not yB))
 |_=>exact Q_g (show false=true from Y) y_
|byt i=>obtain⟨t,rfl⟩:=Z;cases y with
 |byt j=>obtain⟨U,rfl⟩:=L;exact W.ne_bytes (cT I q (Q_h not Gh))
 |_=>exact Q_g (show false=true from Y) y_
|_=>cases y <;> exact Q_g (show false=true from Y) y_
theorem ng:br X (YK .Lt) (jy fun i j=>.bl (decide (i<j))):=kK fun _ _ _ _ _ _ _ q=>lt_int q
theorem ot:br X (YK .LtE) (jy fun i j=>.bl (decide (i<=j))):=kK fun _ _ _ _ _ _ _ q=>le_int q
theorem Eo:br X (YK .Gt) (jy fun i j=>.bl (decide (j<i))):=kK fun _ _ _ _ _ _ _ q=>gt_int q
theorem En:br X (YK .GtE) (jy fun i j=>.bl (decide (j<=i))):=kK fun _ _ _ _ _ _ _ q=>ge_int q
theorem RN:br X (YK .In) (fun x y H Q=>∃i j,x=.str i/\y=.str j/\Q (.bl (!(ZR j i 0 j.length 1).isEmpty)) H):=by intro a s Y H x y v u Q I U L h;obtain⟨i,j,rfl,rfl,q⟩:=h;obtain⟨t,rfl⟩:=U;obtain⟨Z,rfl⟩:=L;exact in_str (cT I q rfl)
theorem Fh:br X (YK .Is) (fun x y H Q=>y=.non/\Q (.bl (decide (x=.non))) H):=by
 intro Z s Y H x y v u Q I U L h;obtain⟨rfl,q⟩:=h;cases L;refine is_none_gen (cT I q ?_);cases x <;> first
  |(rfl)
  |(obtain⟨t,rfl⟩:=U;rfl)
theorem br.or(h:br X f r)(h':br X f r'):br X f (fun x y H Q=>r x y H Q\/r' x y H Q):=by
 intro Z s L H x y v u Q I Y U q;rcases q with q|q
 .exact h Z s L H x y v u Q I Y U q
 .exact h' Z s L H x y v u Q I Y U q
theorem iY(b:Expr)(h:L≠.In:=by decide)(Z:L≠.NotIn:=by decide):Z4 L b=false:=by
 have Y:(L==CmpOp.In)=false:=by simp_all
 have U:(L==CmpOp.NotIn)=false:=by simp_all
 cases b <;> simp[Z4,Y,U]
theorem O9(e:br X (YK L) r)(i:PE X a ta)(g:PE X b tb)(f:Z4 L b=false):PE X (.Compare a [L] [b] pos) (nX r ta tb):=by intro d s U H Q I h;exact wpAny_Compare1 (mM i g I h fun v u Y x y k j c Z q=>e d Y U k x y v u Q j c Z q) f
def EH(t:TE):TT:=fun σ H Q=>t σ H fun x H'=>∃k,x=.bl k/\Q k H'
theorem Oy(m:br X (YK Y) r)(p:PE X a ta)(o:PE X b tb)(n:Z4 Y b=false):PT X (.Compare a [Y] [b] pos) (EH (nX r ta tb)):=by intro U s L H Q I h;refine wpAny_isTrue_Compare1 (aW (p U s L H _ I h) fun v d ⟨x,C,w,i,q1⟩=>aW (o U d L C _ w q1) fun u Z ⟨y,B,t,g,l⟩=>aW (m U Z L B x y v u _ t i g l) fun c s3 ⟨z,A,q,f,k,e,j⟩=>?_) n;subst e;cases f;exact Zy ⟨A,q,j⟩
def xC(r r':R2)(ta tb tc:TE):TE:=fun σ H Q=>ta σ H fun x H1=>tb σ H1 fun y H2=>r x y H2 fun z H3=>∃k,z=.bl k /\(if k=true then tc σ H3 fun w' H4=>r' y w' H4 Q else Q (.bl false) H3)
theorem QJ(E:br X (YK f) r)(U:br X (YK L) r')(K:PE X a ta)(J:PE X b tb)(G:PE X c tc)(F:Ŀ [f,L] [b,c]=false:=by with_unfolding_all rfl):PE X (.Compare a [f,L] [b,c] pos) (xC r r' ta tb tc):=by intro Z s Y H Q I h;refine Compare_chain (aW (K Z s Y H _ I h) fun v q ⟨x,S,O,A,q1⟩=>chain_link (aW (J Z q Y S _ O q1) fun u p ⟨y,R,N,g,C⟩=>aW (E Z p Y R x y v u _ N A g C) fun d s3 ⟨z,l,j,w,k,e,i⟩=>?_)) F;subst e;cases w;refine Zy ?_;cases k with
|false=>exact ite_ff ⟨.bl false,l,j,rfl,i⟩
|true=>exact ite_tt (chain_last (aW (G Z s3 Y l _ j i) fun n o ⟨m,P,M,t,B⟩=>U Z o Y P y m u n Q M g t B))
theorem QQ(J:br X (YK f) r)(U:br X (YK L) r')(O:PE X a ta)(N:PE X b tb)(M:PE X c tc)(K:Ŀ [f,L] [b,c]=false:=by with_unfolding_all rfl):PT X (.Compare a [f,L] [b,c] pos) (EH (xC r r' ta tb tc)):=by intro Z s Y H Q I h;refine isTrue_chain (aW (O Z s Y H _ I h) fun v q ⟨x,H1,I1,B,q1⟩=>test_link (aW (N Z q Y H1 _ I1 q1) fun u p ⟨y,H2,W,g,F⟩=>aW (J Z p Y H2 x y v u _ W B g F) fun d s3 ⟨z,l,j,A,k,e,i⟩=>?_)) K;subst e;cases A;refine Zy ?_;cases k with
|false=>obtain⟨k',R,G⟩:=i;cases R;exact ite_ff ⟨l,j,G⟩
|true=>refine ite_tt (test_last (aW (M Z s3 Y l _ j i) fun n o ⟨m,H4,T,w,E⟩=>aW (U Z o Y H4 y m u n _ T g w E) fun d' s5 ⟨z2,H5,S,t,k2,P,C⟩=>?_));subst P;cases t;exact Zy ⟨H5,S,C⟩
def mN(K:W.Frag)(x:V)(H:Hp)(k:Bool):Prop:=match x with
|.non=>k=false
|.bl b=>k=b
|.int i=>k=(i != 0)
|.str y=>y.length<=sizeLine/\k=((y.length:Int) != 0)
|.byt y=>y.size<=sizeLine/\k=((y.size:Int) != 0)
|.ref p=>(∃xs,bp K H p xs/\k = ! xs.isEmpty)\/(∃xs,cg K H p xs/\k = ! xs.isEmpty)\/∃kvs,Rd H p (.dK kvs)/\k = ! kvs.isEmpty
|_=>False
theorem S1{vs:List (U×Value)}(r:KV L vs):(! vs.isEmpty) = ! L.isEmpty:=by cases r <;> rfl
theorem JS(r:ar xs its):(! its.toArray.isEmpty) = ! xs.isEmpty:=by cases r <;> simp
theorem oU:(sizeLine:Nat)<2^63:=by decide
theorem Of:DR X (fun x H Q=>∃k,mN X.K x H k/\Q k H):=by intro u s o H x v Q I Z h;obtain⟨k,e,q⟩:=h;have A:=oU;have z:sizeLine=16777216:=O_;cases x with
|non=>cases Z;have L:k=false:=e;subst L;exact truthy_none ⟨H,I,q⟩
|bl b=>cases Z;have L:k=b:=e;subst L;exact Zy ⟨H,I,q⟩
|int i=>obtain⟨t,rfl⟩:=Z;have L:k=(i != 0):=e;subst L;exact PySem.P.truthy_int ⟨H,I,q⟩
|str y=>obtain⟨t,rfl⟩:=Z;obtain⟨l,L⟩:y.length<=sizeLine/\k=((y.length:Int) != 0):=e;subst L;exact PySem.P.truthy_str (by omega) ⟨H,I.tok _,q⟩
|byt y=>obtain⟨t,rfl⟩:=Z;obtain⟨l,L⟩:y.size<=sizeLine/\k=((y.size:Int) != 0):=e;subst L;exact W.truthy_bytes (by omega) ⟨H,I.tok _,q⟩
|ref p=>
  cases Z;have L:=e;rcases L with⟨j,a,L⟩|⟨j,a,L⟩|⟨Y,a,L⟩
  .subst L;obtain⟨f,r,d,g⟩:=I.list a;have U:=r.length;exact wpAny_truthy_list d.isList (by simp only[A_];omega) ⟨H,I.tok _,by rw[JS r];exact q⟩
  .subst L;obtain⟨f,r,d,g⟩:=I.tuple a;have U:=r.length;exact truthy_tuple d (by simp only[A_];omega) ⟨H,I.tok _,by rw[JS r];exact q⟩
  .subst L;obtain⟨g,n,c,r,m⟩:Y.length<=sizeLine/\(p==î)=false/\∃c,KV Y c/\s.heap.DictOf (gG X.prog X.w) p c:=a.ok I.hok;have U:Y.length=c.length:=Paired.length r;exact wpAny_truthy_dict n m (by omega) ⟨H,I.tok _,by rw[S1 r];exact q⟩
|_=>exact(show False from e).elim
theorem QR(d:PE X a ta)(c:∀L,isTrue a X.env L=(do let v <-L;Ą a.pos;ñ [v] (truthy v))):PT X a (fun σ H Q=>ta σ H fun x Y=>∃k,mN X.K x Y k/\Q k Y):=by intro U s σ H Q I h;exact isTrue_plain (aW (d U s σ H _ I h) fun v Z k=>by obtain⟨x,f,e,b,q1⟩:=k;exact Of U Z σ f x v Q e b q1) (c _)
theorem JC:br X (ZY .Add) (fun x y H Q=>∃i j,x=.str i/\y=.str j/\i.length+j.length<=sizeLine/\Q (.str (i++j)) H):=by intro c s a H x y v u Q I Y U h;obtain⟨i,j,rfl,rfl,Z,q⟩:=h;obtain⟨t,rfl⟩:=Y;obtain⟨L,rfl⟩:=U;exact add_str (fun L b=>⟨.str (i++j),H,I.tok _,⟨_,rfl⟩,q⟩) Z
theorem bA(r:ar [x] L):∃u,L=[u]/\av x u:=by cases r with
|cons Y U=>cases U;exact⟨_,rfl,Y⟩
theorem rE(r:ar [x,y] U):∃u L,U=[u,L]/\av x u/\av y L:=by cases r with
|cons b a=>cases a with
 |cons Z Y=>cases Y;exact⟨_,_,rfl,b,Z⟩
theorem Qa:dJ X (.builtin "abs") (fun xs H Q=>∃i,xs=[.int i]/\Q (.int (if i<0 then-i else i)) H):=by intro Z s L H xs U Q I r h;obtain⟨i,rfl,q⟩:=h;obtain⟨u,rfl,t,rfl⟩:=bA r;exact call_abs_int fun u Y=>⟨.int _,H,I.tok _,⟨_,rfl⟩,q⟩
def qP(K:W.Frag)(x:V)(H:Hp)(n:Nat):Prop:=match x with
|.str y=>y.length<=sizeLine/\n=y.length
|.byt y=>y.size<=sizeLine/\n=y.size
|.ref p=>(∃xs,bp K H p xs/\n=xs.length)\/∃xs,cg K H p xs/\n=xs.length
|_=>False
theorem Qf:dJ X (.builtin "len") (fun xs H Q=>∃x n,xs=[x]/\qP X.K x H n/\Q (.int n) H):=by intro j s g H xs i Q I r h;obtain⟨x,n,rfl,e,q⟩:=h;obtain⟨u,rfl,Y⟩:=bA r;have k:=O_;cases x with
|str y=>obtain⟨t,rfl⟩:=Y;obtain⟨f,U⟩:y.length<=sizeLine/\n=y.length:=e;subst U;exact len_str (by omega) ⟨.int _,H,I.tok _,⟨_,rfl⟩,q⟩
|byt y=>obtain⟨t,rfl⟩:=Y;obtain⟨f,U⟩:y.size<=sizeLine/\n=y.size:=e;subst U;exact W.len_bytes (by omega) ⟨.int _,H,I.tok _,⟨_,rfl⟩,q⟩
|ref p=>
  cases Y;have U:=e;rcases U with⟨xs,c,U⟩|⟨xs,c,U⟩
  .subst U;obtain⟨b,Z,a,d⟩:=I.list c;have L:=Z.length;exact Calls.call_len_list a.isList (by grind) ⟨.int xs.length,H,I.tok _,⟨_,by simp only[A_];rw[L]⟩,q⟩
  .subst U;obtain⟨b,Z,a,d⟩:=I.tuple c;have L:=Z.length;exact len_tuple a (by grind) ⟨.int xs.length,H,I.tok _,⟨_,by simp only[A_];rw[L]⟩,q⟩
|_=>exact(e).elim
end
structure ObjM(h:Heap)(x dx C:Addr)(mA:Str->Option Value):Prop where
 obj:h.get? x=some (W.instObj C dx)
 ns:h.Ns1 dx mA
 ne:dx≠x
theorem RX(n:h.Ns1 Z Y):∃U,h.get? Z=some U/\∀name,W.lookIn name U=some (Y name):=by
 obtain⟨o,i,j,c,g,f,_,d⟩:=n;refine⟨o,c,fun name=>?_⟩;have e:=d name;unfold nsFind findBy at e;rw[<-Array.find?_toList]at e;unfold W.lookIn;rw[g]
 dsimp only
 split
 .simp_all
 .have a:i.toList.any (·.refKey)=false:=by rw[List.any_eq_false];intro y b;obtain⟨z,t,L⟩:=f y (Array.mem_toList_iff.mp b);simp[DictEntry.refKey,L]
  simp_all
theorem ObjM.look(I:ObjM h x Y C U):∃L,W.InstAt h x (W.instObj C Y) C (some L)/\∀name,W.lookIn name L=some (U name):=let⟨L,Z,a⟩:=RX I.ns
 ⟨L,⟨I.obj,rfl,rfl,Z⟩,a⟩
variable{A:T_}{dx C f:Addr}
section
variable{prog:C_}{K:W.Frag}{x:Addr}{mA:Str->Option Value}{name:Str}{v:Value}
theorem NO(X:K.In s.heap)(I:ObjM s.heap x dx C mA)(b:W.plainGet K C name=true)(a:W.hasDictIn K C=true)(c:W.findIn K (.ref C) name=some none)(Y:mA name=some v)(U:W.handedIn v=true)(h:Q v { s with toks:=s.toks+1 }):p_ (u_ prog w) A (getAttr (.ref x) name L) Q E s:=by obtain⟨d,J,Z⟩:=I.look;exact W.get_value X J (W.plainGet_of b).1 (W.findObj_own a c rfl (by rw[Z,Y])) U h
theorem PK(X:K.In s.heap)(I:ObjM s.heap x dx C mA)(L:W.plainGet K C name=true)(c:W.findIn K (.ref C) name=some (some (.ref f)))(a:W.isFn K (.ref f)=true)(Z:mA name=none)(h:Q (.ref f,[.ref x]) s):p_ (u_ prog w) A (ŀ (.ref x) name U) Q E s:=by obtain⟨Y,J,b⟩:=I.look;exact W.method_fn X J (W.plainGet_of L).1 (W.plainGet_of L).2 c (beq_iff_eq.mp a) (by show(W.lookIn name Y).map (·.isSome)=some false;rw[b,Z];rfl) h
theorem Pv{a:List Str}(X:K.In s.heap)(I:ObjM s.heap x dx C mA)(hs:W.findIn K (.ref C) "__setattr__" = some (some (.builtin "object.__setattr__")))(g:W.plainOver K C=true)(e:W.takerIn K C name=some none)(i:W.hasDictIn K C=true)(d:ź mA a)(f:a.length<=sizeLine)(h:∀h',ObjM h' x dx C (fun y=>if y=name then some v else mA y)->Zq dx s.heap h'->Q () { s with heap:=h',toks:=s.toks+2 }):p_ (u_ prog w) A (setAttr (.ref x) name v) Q E s:=by obtain⟨l,J,n⟩:=I.look;refine W.set_plain X J hs (W.osa_open X J g e fun b=>?_);obtain⟨o,j,Z⟩:=W.any_some i;have c:=I.obj;refine Q_a (e_ (Q_a (Q_a (wpAny_loadPart c (Q_a (W.Looks.here (W.looks_clsIn X j) ?_))))));rw[Z];refine e_ (Q_a (e_ (Q_a ?_)));refine wpAny_nsSet1 I.ns fun h' L U=>?_;obtain⟨m,q,p,k,Y,r⟩:=L.count (PySem.Within.cons name v d);refine Q_a (wpAny_lookBehind k (by rw[Y];exact pastItsLine_dict (by grind)) ?_);exact e_ (h _ ⟨(U.2 _ (ZM I.ne)).trans I.obj,L,I.ne⟩ U)
theorem QX(X:K.In s.heap)(Y:W.makesIn K C=true)(Z:W.findIn K (.ref C) "__init__" = some (some (.ref f)))(a:W.typeIn K (.ref f)=some (.type "function"))(h:Z1 (u_ prog w) (A.under (.builtin "type.__call__" ⟨.ref C::vs,U⟩)) (.call (.ref f) ⟨.ref (s.heap.objs.size+1)::vs,U⟩) (W.InitBack (s.heap.objs.size+1) R)
   { s with heap:=(s.heap.push W.emptyDict).push (W.instObj C s.heap.objs.size) }):Z1 (u_ prog w) A (.call (.ref C) ⟨vs,U⟩) R s:=by exact W.make_core (W.makes_of X Y) (W.looks_findIn X Z) (fun L=>W.bind_fn X L a) (.inl rfl) h
end
def putF(f:Str)(v:V):List (Str×V)->List (Str×V)
|[]=>[(f,v)]
|(g,x)::r=>if g=f then(g,v)::r else(g,x)::putF f v r
theorem JW(f g:Str)(v:V):∀fs:List (Str×V),(putF f v fs).lookup g=if g=f then some v else fs.lookup g
|[]=>by
  show ŧ g [(f,v)]=_
  grind
|(k,x)::r=>by
  have L:=JW f g v r;rw[show putF f v _=(if k=f then(k,v)::r else(k,x)::putF f v r)from rfl]
  grind
theorem zX(f:Str)(v:V):∀fs:List (Str×V),f∈(putF f v fs).map (·.1)/\∀g,g∈fs.map (·.1)->g∈(putF f v fs).map (·.1)
|[]=>⟨by simp[putF],fun g h=>by simp at h⟩
|(k,x)::r=>by
  obtain⟨U,L⟩:=zX f v r;rw[show putF f v _=(if k=f then(k,v)::r else(k,x)::putF f v r)from rfl]
  grind
theorem JU(f:Str)(v:V):∀fs:List (Str×V),(putF f v fs).length<=fs.length+1
|[]=>by simp[putF]
|(k,x)::r=>by
  have L:=JU f v r;rw[show putF f v _=(if k=f then(k,v)::r else(k,x)::putF f v r)from rfl]
  grind
theorem da.some_of{o:Option Value}(r:da (some v) o):∃u,o=some u/\av v u:=by cases o with
|none=>exact(r).elim
|some u=>exact⟨u,rfl,r⟩
theorem da.none_of{o:Option Value}(r:da none o):o=none:=by cases o with
|none=>rfl
|some u=>exact(r).elim
theorem Rc(r:av v u):W.handedIn u=true:=by cases v with
|non=>cases(r);rfl
|bl b=>cases(r);rfl
|int i=>obtain⟨t,e⟩:=(r);cases e;rfl
|str x=>obtain⟨t,e⟩:=(r);cases e;rfl
|byt b=>obtain⟨t,e⟩:=(r);cases e;rfl
|flt b=>obtain⟨t,e⟩:=(r);cases e;rfl
|ref a=>cases(r);rfl
|ty n=>cases(r);rfl
section
variable{fs fs':List (Str×V)}
theorem sw(U:cS P w H h)(e:H a=some (.ins C dx fs)):∃L,ObjM h a dx C L/\(∀f,da (fs.lookup f) (L f))/\ź L (fs.map (·.1))/\fs.length<=1000/\H dx=some (.own a):=by
 obtain⟨d,z,Z,Y,L,n,r,q⟩:=(U a _ e)
 exact⟨L,⟨Y,n,Z⟩,r,q,z,d⟩
end
structure Cls(K:W.Frag)(C:Addr):Prop where
 pg:W.plainGet K C Đ=true
 hd:W.hasDictIn K C=true
 po:W.plainOver K C=true
 sa:W.findIn K (.ref C) "__setattr__" = some (some (.builtin "object.__setattr__"))
theorem Cls.get{K:W.Frag}(c:Cls K C)(f:Str):W.plainGet K C f=true:=c.pg
def kj(K:W.Frag)(C:Addr)(f:Str):Prop:=W.findIn K (.ref C) f=some none
theorem kj.taker{K:W.Frag}{f:Str}(n:kj K C f):W.takerIn K C f=some none:=by unfold W.takerIn;rw[n];rfl
structure Meth(K:W.Frag)(C:Addr)(m:Str)(f:Addr):Prop where
 at_:W.findIn K (.ref C) m=some (some (.ref f))
 fn:W.isFn K (.ref f)=true
 kp:W.keepIn K (.ref f)=true
section
variable{fs:List (Str×V)}{f:Str}{v:V}
theorem SY{b:Bool}(I:Inv X pz σ H s)(e:H a=some (.ins C dx fs))(c:Cls X.K C)(n:kj X.K C f)(l:fs.lookup f=some v)(h:∀u L,Inv X pz σ H L->av v u->Q u L):p_ (u_ X.prog X.w) A (getAttr (.ref a) f b) Q E s:=by obtain⟨Z,O,r,_,_,_⟩:=sw I.hok e;obtain⟨u,Y,U⟩:=da.some_of (by rw[<-l];exact r f);exact NO I.kIn O (c.get f) c.hd n Y (Rc U) (h u _ (I.tok _) U)
theorem SZ(I:Inv X pz σ H s)(e:H a=some (.ins C dx fs))(c:Cls X.K C)(k:Meth X.K C m g)(l:fs.lookup m=none)(h:Q (.ref g,[.ref a]) s):p_ (u_ X.prog X.w) A (ŀ (.ref a) m L) Q E s:=by obtain⟨Y,O,r,_,_,_⟩:=sw I.hok e;have U:=da.none_of (by rw[<-l];exact r m);exact PK I.kIn O (c.get m) k.at_ k.fn U h
theorem SL(I:Inv X pz σ H s)(e:H a=some (.ins C dx fs))(c:Cls X.K C)(n:kj X.K C f)(x:fs.length<1000)(i:av y u)(h:∀Y,Inv X pz σ (aO H a (.ins C dx (putF f y fs))) Y->Q () Y):p_ (u_ X.prog X.w) A (setAttr (.ref a) f u) Q E s:=by
 obtain⟨v,O,r,U,_,Z⟩:=sw I.hok e;have j:(fs.map (·.1)).length<=sizeLine:=by rw[b_,O_];omega
 refine Pv I.kIn O c.sa c.po n.taker c.hd U j fun p L d=>h _ ?_;have l:∃o,p.get? dx=some o:=let⟨o,_,_,t,_⟩:=L.ns;⟨o,t⟩;refine I.write (by rw[e];exact True.intro) (.inr Z) (fun b q m z=>(d.2 b m).trans z) l ?_;refine⟨by rw[bN O.ne];exact Z,?_,O.ne,L.obj,_,L.ns,fun g=>?_,fun g k=>?_⟩
 .have:=JU f y fs;omega
 .rw[JW];by_cases q:g=f
  .rw[Q_e q,Q_e q];exact i
  simp_all
 .by_cases q:g=f
  .rw[q];exact(zX f y fs).1
  .refine(zX f y fs).2 g (U g fun z=>k ?_);simp_all
theorem Inv.made(I:Inv X pz σ H s):Inv X pz σ (aO (aO H s.heap.objs.size (.own (s.heap.objs.size+1))) (s.heap.objs.size+1) (.ins C s.heap.objs.size []))
  { s with heap:=(s.heap.push W.emptyDict).push (W.instObj C s.heap.objs.size) }:=by
 have U:(s.heap.push W.emptyDict).get? s.heap.objs.size=some W.emptyDict:=i_ s.heap rfl;have c:=by have:=i_ (s.heap.push W.emptyDict) (o:=W.instObj C s.heap.objs.size) rfl;rwa[H_]at this
 have a:(s.heap.push W.emptyDict).Ns s.heap.objs.size _:=⟨W.emptyDict,#[],_,U,rfl,(fun e Z=>Q_g Z (by simp)),fun _=>rfl⟩
 have d:=I.laid (o:=.own (s.heap.objs.size+1)) (t':=s.toks) (fun b u q=>a_ _ q) (q_ _) ⟨_,U⟩;refine d.laid (fun b u q=>a_ _ q) (Ĉ (H_ _ _)) ?_;have L:s.heap.objs.size≠s.heap.objs.size+1:=z_ (Zi _);refine⟨by rw[bN L,bV],YQ _,L,c,fun _=>none,(Heap.Ns1.of_empty a).at fun o q=>a_ _ q,fun _=>True.intro,fun y Y=>Q_g rfl Y⟩
theorem Ob(Y:Ì e f L (eval e L)=eval e L)(h:p_ (u_ prog w) A (eval e L) (fun o U=>p_ (u_ prog w) A (getAttr o f true) Q E U) E s):p_ (u_ prog w) A (eval (.Attribute e f pos) L) Q E s:=Attribute_any_ h (by rw[arm_eval_Attribute,Y])
end
def Dh(K:W.Frag)(ta:TE)(f:Str):TE:=fun σ H Q=>ta σ H fun x H1=>∃a C dx fs v,x=.ref a/\H1 a=some (.ins C dx fs)/\Cls K C/\kj K C f/\fs.lookup f=some v/\Q v H1
def Do(K:W.Frag)(ta tv:TE)(f:Str):TS:=fun D σ H=>tv σ H fun y H1=>ta σ H1 fun x H2=>∃a C dx fs,x=.ref a/\H2 a=some (.ins C dx fs)/\Cls K C/\kj K C f/\fs.length<1000 /\D.nx σ (aO H2 a (.ins C dx (putF f y fs)))
section
variable{o value:Expr}{f:Str}{pos' tpos:Pos}{tv:TE}
theorem Mi(b:PE X e ta)(d:Ì e f X.env (eval e X.env)=eval e X.env):PE X (.Attribute e f pos) (Dh X.K ta f):=by intro Z s L H Q I h;refine Ob d (aW (b Z s L H _ I h) fun u r z=>?_);obtain⟨x,m,k,U,a,C,w,t,v,g,i,c,n,l,q⟩:=z;subst g;obtain rfl:u=Value.ref a:=U;exact SY k i c n l fun o p j Y=>⟨v,m,j,Y,q⟩
theorem M9(i:PE X o ta)(g:PE X value tv)(hs:ï value (some (.Attribute o f pos')) pos.line X.env=pure false):PS X (.Assign [.Attribute o f pos'] value pos) (Do X.K ta tv f):=by intro U s L H D I h;refine plainObj_wpAny_Assign_Attribute (aW (g U s L H _ I h) fun u Y ⟨y,t,r,Z,q⟩=>aW (i U Y L t _ r q) fun e v ⟨x,A,p,b,a,C,z,w,j,k,c,n,l,d⟩=>?_) hs;subst j;obtain rfl:e=Value.ref a:=b;exact SL p k c n l Z fun s3 m=>⟨L,_,m,d⟩
theorem TR{σ:St}{H:Hp}{Q:Value->c_->Prop}{b:TE}(p:PE X e b)(I:Inv X pz σ H s)(h:b σ H fun x Z=>∃a C d fs g,x=.ref a/\Z a=some (.ins C d fs)/\Cls X.K C/\Meth X.K C m g/\fs.lookup m=none /\∀Y,Inv X pz σ Z Y->p_ (u_ X.prog X.w) X.A (callWith pos (.ref g) [.ref a] (backTo pos (f_ L X.env)) (Ò pos (Ð [] X.env))) Q X.xe Y)(o:eval (.Call (.Attribute e m U) L [] pos) X.env=(do
   let ov <-eval e X.env
   Ą U.atName
   let(f,first) <-ñ [ov] (ŀ ov m n)
   callWith pos f first (backTo pos (f_ L X.env)) (Ò pos (Ð [] X.env)))):p_ (u_ X.prog X.w) X.A (eval (.Call (.Attribute e m U) L [] pos) X.env) Q X.xe s:=by refine W.methodCall_KW (aW (p pz s σ H _ I h) fun u Y z=>?_) o;obtain⟨x,Z,i,j,a,C,d,fs,g,r,t,c,k,l,q⟩:=z;subst r;obtain rfl:u=Value.ref a:=j;exact SZ i t c k l (q Y i)
end
section
variable{Q:Value->c_->Prop}{c:Value}{b:Bool}
inductive TyOf(K:W.Frag)(H:Hp):V->Value->Prop where
 |non:TyOf K H .non (.type "NoneType")
 |bl (x:Bool):TyOf K H (.bl x) (.type "bool")
 |int (i:Int):TyOf K H (.int i) (.type "int")
 |str (x:Str):TyOf K H (.str x) (.type "str")
 |flt (x:UInt64):TyOf K H (.flt x) (.type "float")
 |lst {a:Addr} {xs:List V} (e:H a=some (.lst xs)):TyOf K H (.ref a) (.type "list")
 |frz {a:Addr} {o:Obj} {xs:List V} (e:H a=some (.frz o (.lst xs))):TyOf K H (.ref a) (.type "list")
 |tup {a:Addr} {xs:List V} (e:H a=some (.tup xs)):TyOf K H (.ref a) (.type "tuple")
 |dK {a:Addr} {kvs:List (aU×V)} (e:H a=some (.dK kvs)):TyOf K H (.ref a) (.type "dict")
 |dT {a:Addr} {kvs:List (List aU×V)} (e:H a=some (.dT kvs)):TyOf K H (.ref a) (.type "dict")
 | ins {a C dx:Addr} {fs:List (Str × V)} (e:H a=some (.ins C dx fs)) (cl:Cls K C) (ha:W.findIn K (.ref C) "__class__" = some (some (.builtin "object.__class__")))
   (hn:W.specialIn K (.builtin "object.__class__") "__get__" = some (some (.builtin "getset_descriptor.__get__"))) (htk:W.takesIn K (.builtin "object.__class__")=some true)
   (hm:W.mroIn K C (.type "object")=some true):TyOf K H (.ref a) (.ref C)
theorem R6(I:Inv X pz σ H s)(L:av x u)(k:TyOf X.K H x t)(e:W.kitOne X.K t c=some b)(h:∀l,Q (.bool b) { s with toks:=l }):p_ (u_ X.prog X.w) A (call (.builtin "isinstance") [u,c]) Q E s:=by cases k with
|non=>cases(L);exact W.kia_one W.kitx_none I.kIn True.intro e (by simp_all) h
|bl y=>cases(L);exact W.kia_one W.kitx_bool I.kIn True.intro e (by simp_all) h
|int i=>obtain⟨t,q⟩:=(L);cases q;exact W.kia_one W.kitx_int I.kIn True.intro e (by simp_all) h
|str y=>obtain⟨t,q⟩:=(L);cases q;exact W.kia_one W.kitx_str I.kIn True.intro e (by simp_all) h
|flt y=>obtain⟨t,q⟩:=(L);cases q;exact W.kia_one W.kitx_float I.kIn True.intro e (by simp_all) h
|@lst a d U=>
  cases(L);obtain⟨_,_,n,_,Y⟩:=(I.hok a _ U)
  exact W.kia_one W.kitx_list I.kIn ⟨_,Y,rfl⟩ e (by grind) h
|@frz a M d U=>
  cases(L);obtain⟨_,_,_,n,_,Y⟩:=(I.hok a _ U)
  exact W.kia_one W.kitx_list I.kIn ⟨_,Y,rfl⟩ e (by grind) h
|@tup a d U=>
  cases(L);obtain⟨_,_,_,p,_⟩:=(I.hok a _ U)
  obtain⟨o,Y,Z,_⟩:=p;exact W.kia_one W.kitx_tuple I.kIn ⟨o,Y,Z⟩ e (by grind) h
|@dK a f U=>
  cases(L);obtain⟨_,_,F,_,p⟩:=(I.hok a _ U)
  obtain⟨o,z,B,Y,Z,_⟩:=p;exact W.kia_one W.kitx_dict I.kIn ⟨o,Y,Z.1⟩ e (by grind) h
|@dT a f U=>
  cases(L);obtain⟨_,_,d,_,o,z,B,Y,Z,_⟩:=(I.hok a _ U)
  exact W.kia_one W.kitx_dict I.kIn ⟨o,Y,Z.1⟩ e (by grind) h
|@ins a C R P U j v m g r=>cases(L);obtain⟨N,O,_⟩:=sw I.hok U;obtain⟨G,J,_⟩:=O.look;exact W.kia_one (W.kitx_own (j.get _) j.hd v m g r) I.kIn J e (by grind) h
end
structure Room(k:Nat)(A:T_):Prop where
 hd:A.handled=none
 dp:A.depth+3*k+5<recursionLimit
 un:A.units+16*k+200<Z9
 gd:A.guards=some []
theorem Room.mono(r:Room k A)(h:j<=k):Room j A:=⟨r.hd,by have:=r.dp;omega,by have:=r.un;omega,r.gd⟩
theorem Room.deeper(r:Room (k+1) A)(L:Env):Room k (A.deeper L):=⟨r.hd,by have:=r.dp;show A.depth+1+3*k+5<_;omega,by have:=r.un;show A.units+3+16*k+200<_;omega,r.gd⟩
theorem S4:(A.under (.builtin "type.__call__" ⟨.ref C::L,U⟩)).depth=A.depth+1:=by first|rfl|grind
theorem S9:(A.under (.builtin "type.__call__" ⟨.ref C::L,U⟩)).units=A.units+1:=by first|rfl|grind
theorem Room.make(r:Room (k+1) A)(C:Addr)(L:List Value)(U:List (Str×Value)):Room k (A.under (.builtin "type.__call__" ⟨.ref C::L,U⟩)):=⟨r.hd,by have:=r.dp;rw[S4];omega,by have:=r.un;rw[S9];omega,(by have:=r.gd;first|exact this|grind)⟩
theorem Room.depth(r:Room k A):A.depth<recursionLimit:=by have:=r.dp;omega
theorem Room.units(r:Room k A):A.units+64<Z9:=by have:=r.un;omega
def Dc:TA:=fun _ H Q=>Q [] H
def Lw(ta:TE)(tr:TA):TA:=fun σ H Q=>ta σ H fun x H1=>tr σ H1 fun xs H2=>Q (x::xs) H2
variable{t:TA}{es:List Expr}
theorem iZ:PA X [] Dc:=fun _ _ _ _ H Q I h=>ŕ ⟨[],H,I,.nil,h⟩
theorem fZ(g:PE X e te)(f:PA X es t)(hs:f_ (e::es) X.env=(false,eval e X.env)::f_ es X.env:=by rfl):PA X (e::es) (Lw te t):=by intro L Y s U H Q I h;rw[hs];refine Ŕ (aW (g Y s U H _ I h) fun u a z=>?_);obtain⟨x,l,j,c,q1⟩:=z;exact aW (f L Y a U l _ j q1) fun m n y=>by obtain⟨Z,k,i,b,d⟩:=y;exact ⟨x::Z,k,i,.cons c b,d⟩
def C8(t:TA):TE:=fun σ H Q=>t σ H fun xs H1=>xs.length<=sizeLine/\∀p,H1 p=none->Q (.ref p) (aO H1 p (.tup xs))
def Dd(t:TA):TE:=fun σ H Q=>t σ H fun xs H1=>xs.length<=sizeLine/\∀p,H1 p=none->Q (.ref p) (aO H1 p (.lst xs))
theorem Fk{x1}(h:PA X es t):PE X (.Tuple es x1 pos) (C8 t):=by intro a s U H Q I c;refine wpAny_Tuple_spliced (aW (h pos a s U H _ I c) fun Y Z ⟨f,g,L,r,z,q⟩=>⟨by rw[<-r.length];exact z,?_⟩);have d:=L.hok.fresh (q_ _);refine⟨.ref Z.heap.objs.size,_,L.laid (fun b u e=>a_ _ e) (q_ _) ?_,rfl,q _ d⟩;exact⟨z,Y,r,⟨_,i_ _ rfl,rfl,_,rfl⟩,_,i_ _ rfl,rfl⟩
theorem Ml(h:PA X es t):PE X (.List es pos) (Dd t):=by intro a s U H Q I c;refine wpAny_List_spliced (aW (h pos a s U H _ I c) fun Y Z ⟨f,g,L,r,z,q⟩=>⟨by rw[<-r.length];exact z,?_⟩);have d:=L.hok.fresh (q_ _);refine⟨.ref Z.heap.objs.size,_,L.laid (fun b u e=>a_ _ e) (q_ _) ?_,rfl,q _ d⟩;exact⟨z,Y,0,r,i_ _ rfl⟩
abbrev Sp:=List V->Hp->VK->XK->Prop
abbrev jf:=List Env->Hp->c_->XK->Value->c_->Prop
structure Env0(P:C_)(w:S_)(K:W.Frag)(mg:Str->Option Value)(base:Heap)(A:T_)(outer:List Env)(s:c_)(H:Hp):Prop where
 frames:A.frames=some outer
 mod:Mod K mg base
 bs:∀b o,base.get? b=some o->s.heap.get? b=some o/\H b=none
 bsz:base.objs.size<=s.heap.objs.size
 funs:s.heap.FunFrames base outer
 frf:∀b∈ij outer,H b=none
 hok:cS P w H s.heap
 bare:ô s.gens
def CE(outer:List Env)(P:C_)(w:S_)(H:Hp)(s:c_)(Q:VK)(u:Value)(s':c_):Prop:=∃v H',s'.os=s.os/\ô s'.gens/\Un (ij outer) [] H H' s.heap s'.heap/\cS P w H' s'.heap/\av v u/\Q v H'
def CR(CX:jf)(outer:List Env)(P:C_)(w:S_)(H:Hp)(s:c_)(Q:VK)(E:XK)(r:ò)(s':c_):Prop:=match r with
|.ok (.ret u)=>CE outer P w H s Q u s'
|.ok _=>False
|.error e=>CX outer H s E e s'
structure FnOk(P:C_)(w:S_)(K:W.Frag)(mg:Str->Option Value)(base:Heap)(CX:jf)(k:Nat)(f:Addr)(fd:ZB)(ps:List Str)(sp:Sp):Prop where
 len:∀vs H Q E,sp vs H Q E->vs.length=ps.length
 run:∀(A:T_)(outer:List Env)(s:c_)(H:Hp)(args:Args)(us:List Value)(vs:List V)(Q:VK)(E:XK),Room k A->Env0 P w K mg base A outer s H->ą s fd args (ps.zip us)->ar vs us->sp vs H Q E ->Z1 (u_ P w) A (.call (.ref f) args) (CR CX outer P w H s Q E) s
theorem FnOk.mono{K:W.Frag}{b:jf}{j k:Nat}{f:Addr}{a:ZB}{ps:List Str}{Y:Sp}(F:FnOk P w K Z base b j f a ps Y)(h:j<=k):FnOk P w K Z base b k f a ps Y:=⟨F.len,fun A L s H U d c Q E e=>F.run A L s H U d c Q E (e.mono h)⟩
theorem FnOk.imp{K:W.Frag}{a:Str->Option Value}{c:jf}{k:Nat}{f:Addr}{b:ZB}{ps:List Str}{Z L:Sp}(F:FnOk P w K a base c k f b ps Z)(h:∀vs H Q E,L vs H Q E->Z vs H Q E):FnOk P w K a base c k f b ps L:=⟨fun vs H Q E q=>F.len vs H Q E (h _ _ _ _ q),fun A U s H Y d vs Q E i j l e g=>F.run A U s H Y d vs Q E i j l e (h _ _ _ _ g)⟩
theorem Env0.make{K:W.Frag}{L:List Env}{s:c_}{H:Hp}(e:Env0 P w K U base A L s H)(C:Addr)(Y:List Value)(Z:List (Str×Value)):Env0 P w K U base (A.under (.builtin "type.__call__" ⟨.ref C::Y,Z⟩)) L s H:=⟨by first|exact e.frames|grind,e.mod,e.bs,e.bsz,e.funs,e.frf,e.hok,e.bare⟩
section
variable{s':c_}
theorem Inv.env0(I:Inv X pz σ H s):Env0 X.prog X.w X.K X.mg X.base X.A X.stack s H:=⟨I.ok.frames,I.ok.mod,I.bs,Y1 I.ok.bsz I.sz,I.stack,I.stkFree,I.hok,I.bare⟩
theorem Inv.after(I:Inv X pz σ H s)(h:CE X.stack X.prog X.w H s Q u s'):EP X pz σ Q u s':=by obtain⟨v,b,a,L,Z,Y,r,q⟩:=h;obtain⟨c,g,d,t,U⟩:=s';obtain rfl:U=s.os:=a;exact⟨v,b,I.call Z Y L (by simp_all),r,q⟩
end
def Lv(sp:Sp)(dvs:List V)(E:XK)(t:TA):TE:=fun σ H Q=>t σ H fun vs H1=>sp (vs++dvs) H1 Q E
def Ly(C:Addr)(sp:Sp)(dvs:List V)(E:XK)(t:TA):TE:=fun σ H Q=>t σ H fun vs H1=>∀x dx,H1 x=none->H1 dx=none->dx≠x ->sp (.ref x::(vs++dvs)) (aO (aO H1 dx (.own x)) x (.ins C dx [])) (fun v H2=>v=.non/\Q (.ref x) H2) E
def jg(K:W.Frag)(fd:ZB)(ps:List Str)(ds:List Value):Prop:=∀(s:c_)(us:List Value),K.In s.heap->(us++ds).length=ps.length->ą s fd ⟨us,[]⟩ (ps.zip (us++ds))
theorem jg.all{K:W.Frag}(h:∀L:List Value,L.length=ps.length->Ó Y ⟨L,[]⟩=pure (ps.zip L)):jg K Y ps []:=fun s L _ U=>by rw[Ú]at U ⊢;exact .of_eq (h L U)
def oH(CX:jf)(X:Cx)(E:XK):Prop:=∀(pz:List (Addr×Obj))(σ:St)(H:Hp)(s:c_)(e:Value)(s':c_),Inv X pz σ H s->CX X.stack H s E e s'->X.xe e s'
variable{p:Pos}
section
variable{CX:jf}{k:Nat}{fd:ZB}{ps:List Str}{sp:Sp}{dvs:List V}{ds:List Value}{E:XK}{x m:Str}{apos:Pos}{o:Expr}
theorem F6(F:FnOk X.prog X.w X.K X.mg X.base CX k f fd ps sp)(b:Room k X.A)(g:jg X.K fd ps ds)(d:ar dvs ds)(a:oH CX X E)(I:Inv X pz σ H s)(r:ar vs U)(h:sp (vs++dvs) H Q E):p_ (u_ X.prog X.w) X.A (call (.ref f) U) (EP X pz σ Q) X.xe s:=by
 have Y:=r.append d;have c:(U++ds).length=ps.length:=by rw[<-Y.length];exact F.len _ _ _ _ h
 refine Ľ (û (F.run X.A X.stack s H _ _ _ Q E b I.env0 (g s U I.kIn c) Y h) fun r Z L=>?_);cases r with
|error e=>exact a pz σ H s e Z I L
|ok i=>cases i with
 |ret u=>exact I.after L
 |next=>exact ZU L
 |brk=>exact ZU L
 |cont=>exact ZU L
theorem GD(F:FnOk X.prog X.w X.K X.mg X.base CX k f fd ps sp)(c:Room k X.A)(i:Gl X x)(d:X.mg x=some (.ref f))(g:W.keepIn X.K (.ref f)=true)(m:jg X.K fd ps ds)(l:ar dvs ds)(b:oH CX X E)(n:PA X (e::es) t)(L:(x==("__debug__" : Str))=false:=by decide)(j:f_ (e::es) X.env=(false,eval e X.env)::f_ es X.env:=by rfl)(U:(backTo pos (f_ es X.env)).any (·.1)=false:=by rfl):PE X (.Call (.Name x p) (e::es) [] pos) (Lv sp dvs E t):=by intro a s Z H Q I h;refine Y3 (yO I i d ?_ L);refine W.callWith_K I.ok.mod.kin g (aW (n pos a s Z H _ I h) fun u v ⟨o,y,Y,r,q⟩=>⟨Y.kIn,?_⟩) j U;exact F6 F c m l b Y r q
structure Mk(K:W.Frag)(C f:Addr):Prop where
 makes:W.makesIn K C=true
 init:W.findIn K (.ref C) "__init__" = some (some (.ref f))
 fn:W.isFn K (.ref f)=true
 kp:W.keepIn K (.ref C)=true
theorem Qo(M:Mk X.K C f)(F:FnOk X.prog X.w X.K X.mg X.base CX k f fd ps sp)(j:Room (k+1) X.A)(n:jg X.K fd ps ds)(m:ar dvs ds)(i:oH CX X E)(I:Inv X pz σ H s)(r:ar vs U)(h:∀x Y,H x=none->H Y=none->Y≠x->sp (.ref x::(vs++dvs)) (aO (aO H Y (.own x)) x (.ins C Y [])) (fun v t=>v=.non/\Q (.ref x) t) E):p_ (u_ X.prog X.w) X.A (call (.ref C) U) (EP X pz σ Q) X.xe s:=by
 have b:=h _ s.heap.objs.size (I.hok.fresh (Ċ _)) (I.hok.fresh (q_ _)) (z_ (Zi _));have Z:=Inv.made (C:=C) I;have a:ar (V.ref (s.heap.objs.size+1)::(vs++dvs)) _:=.cons rfl (r.append m);have l:=by have e:=a.length;rw[F.len _ _ _ _ b]at e;exact e.symm
 refine Ľ (QX I.kIn M.makes M.init (beq_iff_eq.mp M.fn) (û (F.run _ X.stack _ _ _ _ _ _ E (j.make C U [])
  (Z.env0.make C U []) (n _ _ Z.kIn l) a b) fun r c L=>?_))
 cases r with
|error e=>exact i pz σ _ _ e c Z L
|ok o=>cases o with
 |ret u=>obtain⟨v,y,q,d,p,g⟩:=Z.after L;subst p;exact⟨d,⟨V.ref _,y,q,rfl,g⟩⟩
 |next=>exact ZU L
 |brk=>exact ZU L
 |cont=>exact ZU L
theorem Oq(M:Mk X.K C f)(F:FnOk X.prog X.w X.K X.mg X.base CX k f fd ps sp)(c:Room (k+1) X.A)(g:Gl X x)(d:X.mg x=some (.ref C))(l:jg X.K fd ps ds)(j:ar dvs ds)(b:oH CX X E)(m:PA X (e::es) t)(L:(x==("__debug__" : Str))=false:=by decide)(i:f_ (e::es) X.env=(false,eval e X.env)::f_ es X.env:=by rfl)(U:(backTo pos (f_ es X.env)).any (·.1)=false:=by rfl):PE X (.Call (.Name x p) (e::es) [] pos) (Ly C sp dvs E t):=by intro a s Z H Q I h;refine Y3 (yO I g d ?_ L);refine W.callWith_K I.ok.mod.kin M.kp (aW (m pos a s Z H _ I h) fun o u ⟨n,v,Y,r,q⟩=>⟨Y.kIn,?_⟩) i U;exact Qo M F c l j b Y r q
end
structure FnScope(N P:List Str)(sc:à):Prop where
 kind:sc.kind=.function
 co:sc.isCoroutine=false
 gen:sc.isGenerator=false
 nd:N.Nodup
 pre:N.take P.length=P
 par:∀x∈P,sc.names.lookup x=some .local\/sc.names.lookup x=some .cell
 nofree:∀y∈sc.names,y.2≠.free
theorem I0:∀{L:List (Str×Value)}{m:Str->Option Value},(∀v,(x,v)∉L)->bindL U L m x=m x
|[],_,_=>rfl
|(n,v)::r,m,h=>by
  unfold bindL;rw[I0 fun w Y=>h w (k_ _ Y)];split
  .grind
  .rfl
theorem IY:∀{L:List (Str×Value)}{m:Str->Option Value},(∀v,(x,v)∉L)->bindC U L m x=m x
|[],_,_=>rfl
|(n,v)::r,m,h=>by
  unfold bindC;rw[IY fun w Y=>h w (k_ _ Y)];split
  .rfl
  grind
theorem IZ:∀{P:List Str}{vs:List Value}{i:Nat}{m:Str->Option Value},P.Nodup->P[i]? = some x->vs[i]? = some v->L x=some .local ->bindL L (P.zip vs) m x=some v
|[],_,_,_,_,h,_,_=>by simp at h
|_::_,[],_,_,_,_,h,_=>by simp at h
|p::P,w::vs,0,m,Z,Y,U,a=>by simp at Y U;subst Y;subst U;show bindL L ((p,w)::P.zip vs) m p=_;unfold bindL;rw[I0 fun v b=>(ZV.mp Z).1 (Ť b).1,Q_e a];simp
|p::P,w::vs,i+1,m,Z,Y,U,a=>by unfold bindL;exact IZ (ZV.mp Z).2 (by simpa using Y) (by simpa using U) a
theorem IX:∀{P:List Str}{vs:List Value}{i:Nat}{m:Str->Option Value},P.Nodup->P[i]? = some x->vs[i]? = some v->L x≠some .local ->bindC L (P.zip vs) m x=some v
|[],_,_,_,_,h,_,_=>by simp at h
|_::_,[],_,_,_,_,h,_=>by simp at h
|p::P,w::vs,0,m,Z,Y,U,a=>by simp at Y U;subst Y;subst U;show bindC L ((p,w)::P.zip vs) m p=_;unfold bindC;rw[IY fun v b=>(ZV.mp Z).1 (Ť b).1,Q_f a];simp
|p::P,w::vs,i+1,m,Z,Y,U,a=>by unfold bindC;exact IX (ZV.mp Z).2 (by simpa using Y) (by simpa using U) a
def bB(N:List Str)(vs:List V):St:=vs.map some++t_ (N.length-vs.length) none
def dF(CX:jf)(P:C_)(w:S_)(K:W.Frag)(mg:Str->Option Value)(base:Heap)(N:List Str)(qual:Str)(scope:à)(f:Addr)(cd:Value)(A:T_)(outer:List Env)(s:c_)(H:Hp)(E:XK):Cx where
 prog:=P
 w:=w
 K:=K
 mg:=mg
 base:=base
 A:=A.deeper (ä qual scope s.heap.objs.size f cd)
 N:=N
 s₀:=s
 H₀:=H
 env:=ä qual scope s.heap.objs.size f cd
 outer:=outer
 stack:=ä qual scope s.heap.objs.size f cd::outer
 ex:=[]
 calm:=true
 fn:=fun _=>true
 pn:=[]
 xe:=fun e s'=>p_ (u_ P w) (A.deeper (ä qual scope s.heap.objs.size f cd)) (leaving (ä qual scope s.heap.objs.size f cd) e) (fun _ s''=>CX outer H s E e s'') (fun e' s''=>CX outer H s E e' s'') s'
theorem Hw{L:à}(h:L.names.lookup x=some .cell):∃c,(cellsFrom n L.names []).lookup x=some c:=by have q:=W.cellsFrom_some L.names n [] (.inl h);exact Option.isSome_iff_exists.mp q
theorem Ri{K:W.Frag}{C:Str->Option Value}{N ps:List Str}{d:Str}{Y:à}{f:Addr}{t:Value}{A:T_}{Z:List Env}{s F:c_}{H:Hp}{E:XK}{B:List Value}{vs:List V}(S:FnScope N ps Y)(Q:A.handled=none)(j:Env0 P w K C base A Z s H)(X:vs.length=ps.length)(r:ar vs B)(x:InCallC s s.heap.objs.size (bindL (ä d Y s.heap.objs.size f t).kindOf (ps.zip B) fun _=>none) (cellsFrom (s.heap.objs.size+1) Y.names []) (bindC (ä d Y s.heap.objs.size f t).kindOf (ps.zip B) fun _=>none) F):Inv (dF J P w K C base N d Y f t A Z s H E) [] (bB N vs) H F:=by
 have O:ps.length<=N.length:=by have:=Q_h Z5 S.pre;rw[Zj]at this;omega
 obtain⟨o,T,rfl,I⟩:=x.done;have L:∀b:Addr,b∉(dF J P w K C base N d Y f t A Z s H E).ex:=fun b z=>Q_g (show b∈([]:List Addr)from z) (by simp);refine⟨⟨j.mod,S.kind,rfl,rfl,q_ _,fun y z c o g=>?_,fun y l=>?_,fun y c _ h=>?_,fun _=>Q,Around.frames_deeper j.frames,.inr ⟨rfl,rfl⟩,fun b z=>Q_g z (L b),j.bs,j.bsz,fun b _ _=>L b,fun b z=>Q_g z (L b),j.funs,j.frf⟩,rfl,j.bare,Un.kept I,⟨_,x.toInCall.ns,fun i y v o g h3=>?_⟩,fun y c h=>⟨_,x.cell y c h⟩,j.hok.fresh (q_ _),fun y c h=>?_,fun p m=>Q_g (show p∈([]:List (Addr×Obj))from m) (by simp),j.hok.kept I,?_⟩
 .exact name_of_addr x.apart (ZG o) (ZG g)
 .have l:Y.names.lookup y=some .cell\/Y.names.lookup y=some .free:=l;rcases l with l|l
  .exact Hw l
  .exact Q_g rfl (S.nofree _ (ZG l))
 .exact ņ (x.above y c (ZG h))
 .have hi:i<vs.length:=by
   unfold bB at g;by_cases hi:i<vs.length
   .exact hi
   .rw[ZC (by simpa using hi)]at g;rw[Zu]at g;split at g <;> cases g
  have R:vs[i]? = some v:=by unfold bB at g;rw[Yw (by simpa using hi),l_]at g;cases e:vs[i]? with
  |none=>rw[e]at g;cases g
  |some a=>rw[e]at g;cases g;rfl
  obtain⟨u,G,M⟩:=r.get R;have m:ps[i]? = some y:=by rw[<-S.pre,Qcu (by omega)];exact o
  have U:ps.Nodup:=by rw[<-S.pre];exact S.nd.sublist (Qek _ _)
  refine⟨u,M,?_⟩;rcases S.par y (YV m)with k|k
  .exact .inl ⟨k,IZ U m G k⟩
  .obtain⟨c,e⟩:=Hw (n:=s.heap.objs.size+1) k;refine .inr ⟨.inl k,c,e,?_⟩;have q:=x.cell y c e;rw[IX U m G (by show Y.names.lookup y≠_;rw[k];decide)]at q;exact q
 .exact j.hok.fresh (ņ (x.above y c (ZG h)))
 .unfold bB;show _=N.length;rw[D_,b_,ē];omega
theorem Vk{K:W.Frag}{C:Str->Option Value}{k:Nat}{f:Addr}{name d:Str}{h:Arguments}{i:List Stmt}{a:à}{dV kV B X g ct oc:Value}{an od:Option Addr}{O:Array (Option Value)}{N ps:List Str}{G:Sp}(lk:K.lookup f=some ⟨oc,od,.func (W.fnOf name d h i a dV kV B X an g ct),O⟩)(ac:W.codeIn K g d=true)(S:FnScope N ps a)(p:∀vs H Q E,G vs H Q E->vs.length=ps.length)(L:∀(A:T_)(c:List Env)(s:c_)(H:Hp)(vs:List V)(Q:VK)(E:XK),Room k (A.deeper (ä d a s.heap.objs.size f g))->G vs H Q E ->∃t,dI (dF F P w K C base N d a f g A c s H E) i t/\t { nx:=fun _ l=>Q .non l,rt:=Q } (bB N vs) H):FnOk P w K C base F (k+1) f (W.fnOf name d h i a dV kV B X an g ct) ps G:=by
 refine⟨p,fun A c s H args us vs Q E R z hb r Y=>?_⟩;have hl:=p _ _ _ _ Y;have KX:=z.mod.kin.keeps fun b o e=>(z.bs b o e).1;have Z:=z.mod.nolimit.keeps fun b o e=>(z.bs b o e).1;have U:∀y∈ps.zip us,a.names.lookup y.1=some .local\/(a.names.lookup y.1=some .cell/\((cellsFrom (s.heap.objs.size+1) a.names []).lookup y.1).isSome=true):=fun⟨n,v⟩ hy=>by
  rcases S.par n (Ť hy).1 with q|q
  .exact .inl q
  .exact .inr ⟨q,W.cellsFrom_some _ _ _ (.inl q)⟩
 refine codeAny_call_function R.depth (KX _ _ lk) rfl S.co S.gen rfl (W.codeRec_of KX ac) (hb _ _ _ _ ?_);refine wpAny_newFunctionEnv_cells S.kind U fun env he T x=>?_;subst he;refine⟨Z.keeps x.toInCall.keep,codeAny_func ?_⟩;obtain⟨t,ht,hq⟩:=L A c s H vs Q E (R.deeper _) Y;have I:Inv (dF F P w K C base N d a f g A c s H E) [] _ H T:=Ri S R.hd z hl r x;refine Z8 (ht [] T _ H _ I hq) (fun fl M m=>?_) fun e M m=>m;have fin:∀{j:St}{l:Hp}{v:V}{u:Value},Inv (dF F P w K C base N d a f g A c s H E) [] j l M->av v u->Q v l->CE c P w H s Q u M:=fun{j l v u} J rv q=>⟨v,l,J.os,J.bare,J.base,J.hok,rv,q⟩
 cases fl with
|ret u=>obtain⟨v,j,l,J,rv,q⟩:=m;exact fin J rv q
|next=>obtain⟨j,l,J,q⟩:=m;exact fin (v:=V.non) J rfl q
|brk=>obtain⟨_,_,_,q⟩:=m;exact ZU q
|cont=>obtain⟨_,_,_,q⟩:=m;exact ZU q
section
variable{x:Str}{id T:String}{r:List V->Hp->VK->Prop}
def lH(r:List V->Hp->VK->Prop)(t:TA):TE:=fun σ H Q=>t σ H fun vs H1=>r vs H1 Q
theorem i7(l:dJ X (.builtin id) r)(j:Gl X x)(i:X.mg x=none)(f:Ï x=some (.builtin id))(m:PA X (e::es) t)(g:x≠"__name__" := by decide)(L:(x==("__debug__" : Str))=false:=by decide)(k:f_ (e::es) X.env=(false,eval e X.env)::f_ es X.env:=by rfl)(U:(backTo pos (f_ es X.env)).any (·.1)=false:=by rfl):PE X (.Call (.Name x p) (e::es) [] pos) (lH r t):=by intro Z s Y H Q I h;refine Y3 (iq I j i f ?_ g L);exact Qbx (aW (m pos Z s Y H _ I h) fun b c z=>by obtain⟨a,o,n,d,q1⟩:=z;exact l Z c Y o a b Q n d q1) k U
theorem pG(l:dJ X (.type T) r)(j:Gl X x)(i:X.mg x=none)(f:Ï x=some (.type T))(m:PA X (e::es) t)(g:x≠"__name__" := by decide)(L:(x==("__debug__" : Str))=false:=by decide)(k:f_ (e::es) X.env=(false,eval e X.env)::f_ es X.env:=by rfl)(U:(backTo pos (f_ es X.env)).any (·.1)=false:=by rfl):PE X (.Call (.Name x p) (e::es) [] pos) (lH r t):=by intro Z s Y H Q I h;refine Y3 (iq I j i f ?_ g L);exact YD (aW (m pos Z s Y H _ I h) fun b c z=>by obtain⟨a,o,n,d,q1⟩:=z;exact l Z c Y o a b Q n d q1) k U
end
end L2
namespace HT
open PySem PyProof.Rows
def bH:List Int->List Int->Bool
|[],[]=>false
|[],_::_=>true
|_::_,[]=>false
|x::xs,y::ys=>if x=y then bH xs ys else decide (x<y)
theorem gV(x y:Int)(xs L:List Int):bH (x::xs) (y::L)=if x=y then bH xs L else decide (x<y):=rfl
theorem e8:bH [] []=false:=rfl
theorem eG(y:Int)(L:List Int):bH [] (y::L)=true:=rfl
theorem eI(x:Int)(xs:List Int):bH (x::xs) []=false:=rfl
theorem jI(A:T_)(s:c_)(a:Int)(t:Tok)(c:Int)(u:Tok):∃e,Qe2 A s (.int a t) (.int c u) e/\(e=true↔a=c):=⟨_,Qd3 a t c u,by simp⟩
theorem gs(A:T_)(s:c_)(a:Int)(t:Tok)(c:Int)(u:Tok)(prog:C_)(w:S_)(E:Value->c_->Prop)(Q:Value->c_->Prop)(h:Q (.bool (decide (a<c))) s):p_ (u_ prog w) A (Ļ .Lt (.int a t) (.int c u)) Q E s:=(PyProof.Rows.lt_int h)
section
open PySem.SeqAt
open PySem.AutoSeq1 (wpAny_loadPart')
open PySem.MeetsSeq PySem.MeetsSeq2 PySem.MeetsSeq3
end
section
variable{prog:C_}{w:S_}{A:T_}{E:Value->c_->Prop}{s:c_}
theorem kS(k:ã s.heap t vs.toArray)(p:ã s.heap b c.toArray)(i:vs≠[])(q:c=[]->Q (.ref t) s)(r:c≠[]->Q (.ref s.heap.objs.size) { s with heap:=s.heap.push { cls:=.type "tuple",data:=.seq (vs++c).toArray } })(l:vs.length+c.length<=sizeLine):p_ (u_ prog w) A (ZY .Add (.ref t) (.ref b)) Q E s:=by
 obtain⟨⟨cls,j,data,g⟩,d,o,n,m⟩:=id k;obtain⟨⟨u,U,Z,L⟩,a,Y,h,f⟩:=id p;subst o m Y f;by_cases e:c=[]
 .exact ĺ ⟨_,d,rfl⟩ ⟨_,a,rfl⟩ ŭ Ź Qbm Qbf (Qa3 _ _)
   (tuple_addW1 t b vs.toArray c.toArray n h j U g L (by simpa using i) (by simp[e])) ⟨d,a,q e⟩
 .refine ĺ ⟨_,d,rfl⟩ ⟨_,a,rfl⟩ ŭ Ź Qbm Qbf (Qa3 _ _)
   (tuple_addW2 t b vs.toArray c.toArray n h j U g L (by simpa using i) (by simpa using e) (by omega)) ⟨d,a,?_⟩
  simp_all
def sIx(n d:Nat):Option Int->Nat
|none=>d
|some v=>if v<0 then(v+(n:Int)).toNat else min v.toNat n
theorem cx(n d:Nat):sIx n d none=d:=rfl
theorem cA(n d k:Nat):sIx n d (some (k:Int))=min k n:=by show(if (k:Int)<0 then((k:Int)+(n:Int)).toNat else min (k:Int).toNat n)=min k n;rw[Q_f (by omega),W_]
theorem Np(n d:Nat)(L:d<=n)(o:Option Int):sIx n d o<=n:=by cases o with
|none=>exact L
|some v=>
  show(if v<0 then(v+(n)).toNat else min v.toNat n)<=n
  grind
theorem Gs(v:Int)(n d:Nat):(if v<0 then max (v+(n:Int)) 0 else min v (n:Int))=((sIx n d (some v):Nat):Int):=by
 show(if v<0 then max _ 0 else min v _)=(((if v<0 then(v+(n)).toNat else min v.toNat n)))
 grind
theorem Tp(lo L:Option Int)(n:Nat):Qch lo L 1 (n:Int)=(((sIx n 0 lo:Nat):Int),((sIx n n L:Nat):Int)):=by
 have U:¬ ((1)<0):=by decide
 refine ř ?_ ?_
 .cases lo with
 |none=>rfl
 |some v=>exact Gs v n 0
 .cases L with
 |none=>rfl
 |some v=>exact Gs v n n
theorem Ti(i j:Nat):Qa0 (i:Int) (j:Int) 1=j-i:=by
 unfold Qa0
 grind
theorem JH(p:ø v o)(h:Q o s):p_ (u_ prog w) A (QeR v) Q E s:=by cases p with
|none=>exact slicePart_none h
|int i t=>exact slicePart_int h
theorem cu{lo Z:Option Int}{Q:Int×Int×Nat->c_->Prop}(hs:s.heap.IsSliceOf c b a .none)(e:ø b lo)(d:ø a Z)(h:Q (((sIx n 0 lo:Nat):Int),1,sIx n n Z-sIx n 0 lo) s):p_ (u_ prog w) A (Qe4 (.ref c) (pure (n:Int))) Q E s:=by obtain⟨f,L,Y,U⟩:=id hs;refine Q_a (Q_a (Q_ L U rfl (Q_a (Q_ L U rfl (Q_a (Q_ L U rfl (e_ ?_)))))));refine Q_a (slicePart_none ?_);refine Q_a (JH e (Q_a (JH d (Q_a (e_ ?_)))));show p_ _ _ (match Qch lo Z 1 _ with|(lo,Z)=>pure (lo,(1:Int),Qa0 lo Z 1)) _ _ s;rw[Tp lo Z n];show p_ _ _ (pure _) _ _ s;rw[Ti];exact e_ h
theorem QM(xs:Array Value)(i k:Nat):((d_ k).filterMap fun(m:Nat)=>xs[((i:Int)+(m:Int)*1).toNat]?).toArray=((xs.toList.drop i).take k).toArray:=by
 have e:(fun(m:Nat)=>xs[((i:Int)+(m:Int)*1).toNat]?)=fun m=>xs[i+m]?:=by
  funext m;have:((i:Int)+(m:Int)*1).toNat=i+m:=by omega
  rw[this]
 rw[e];have:=pick_run xs i k;rw[Qd4]at this;have L:((fun x=>xs[x]?)∘fun x=>i+x)=fun m=>xs[i+m]?:=rfl;rw[L]at this;rw[this]
theorem du{lo b:Option Int}(c:ã s.heap t a)(hs:s.heap.IsSliceOf d f e .none)(i:ø f lo)(g:ø e b)(n:¬ (sIx a.size 0 lo=0/\sIx a.size a.size b=a.size))(h:Q (.ref s.heap.objs.size) { s with heap:=s.heap.push { cls:=.type "tuple",data:=.seq ((a.toList.drop (sIx a.size 0 lo)).take (sIx a.size a.size b-sIx a.size 0 lo)).toArray } })(k:a.size<=sizeLine):p_ (u_ prog w) A (ÿ (.ref t) (.ref d)) Q E s:=by
 have L:sizeOk (.seq ((a.toList.drop (sIx a.size 0 lo)).take (sIx a.size a.size b-sIx a.size 0 lo)).toArray):=by
  show((a.toList.drop (sIx a.size 0 lo)).take (sIx a.size a.size b-sIx a.size 0 lo)).toArray.size<=sizeLine
  grind
 have o:sIx a.size a.size b<=a.size:=Np _ _ (q_ _) b;obtain⟨j,Z,l,p⟩:=id hs;have Y:s.TypeIs (.ref d) "slice" := ⟨j,Z,l⟩
 unfold ÿ
 try with_reducible refine YH ?_
 first|grind|skip
 refine Q_a (Qel c.typeIs (by decide) ?_);refine Q_a (YX (name:=YT "__getitem__") c.typeIs YF
  (Y0 YF c.typeIs entry_tuple_getitem ?_ (args_tuple_getitem _ _)))
 show p_ _ _ (QbZ (.ref t) >>= _) _ _ s;refine Q_a (tupleItemsOf_ c ?_);refine Q_a (ZN Y ?_);rw[Q_e (by decide)];refine Q_a (cu hs i g ?_);have U:¬ ((((sIx a.size 0 lo:Nat):Int)==0&&(1:Int)==1&&(sIx a.size a.size b-sIx a.size 0 lo)==a.size)=true):=by simp_all
 show p_ _ _ (if (((sIx a.size 0 lo:Nat):Int)==0&&(1:Int)==1&&(sIx a.size a.size b-sIx a.size 0 lo)==a.size)=true then _ else _) _ _ s;rw[Q_f U,QM]
 first
  |grind
  |exact Q_a (m:=Œ _) (Zc (Q_a (e_ (e_ ⟨_,rfl,e_ h⟩))) L)
  |grind
  |grind
end
end HT
namespace L2
open PySem PySem.Spec PyProof.Rows
abbrev TO:=St->Hp->(Option Int->Hp->Prop)->Prop
def PO(X:Cx)(e:Option Expr)(t:TO):Prop:=∀(pz:List (Addr×Obj))(s:c_)(σ:St)(H:Hp)(Q:Option Int->Hp->Prop),Inv X pz σ H s->t σ H Q ->p_ (u_ X.prog X.w) X.A (evalPart e X.env) (fun u s'=>∃o H',Inv X pz σ H' s'/\ø u o/\Q o H') X.xe s
def PC:TO:=fun _ H Q=>Q none H
def LB(t:TE):TO:=fun σ H Q=>t σ H fun x H1=>∃i,x=.int i/\Q (some i) H1
theorem pM:∀{L:List Value},ar (U.map V.int) L->æ L U:=by induction U with
|nil=>intro L r;rw[QfE]at r;cases r;exact .nil
|cons n U a=>intro L r;rw[Yx]at r;cases r with
 |cons Z Y=>obtain⟨t,e⟩:=Z;subst e;exact .cons n t (a Y)
variable{X:Cx}{e:Expr}{pos:Pos}
section
variable{te:TE}{lo hi:Option Expr}{tl th:TO}{p2:Pos}
theorem Ov:PO X none PC:=by intro U s L H Q I h;exact e_ ⟨none,H,I,.none,h⟩
theorem Ox(h:PE X e te):PO X (some e) (LB te):=by intro Y s L H Q I Z;refine aW (h Y s L H _ I Z) fun u c k=>?_;obtain⟨x,b,a,U,q1⟩:=k;obtain⟨i,rfl,q⟩:=q1;obtain⟨t,rfl⟩:=U;exact⟨some i,b,a,.int i t,q⟩
def jJ(X:Cx)(r:V->Option Int->Option Int->Hp->VK->Prop):Prop:=∀(pz:List (Addr×Obj))(s:c_)(σ:St)(H:Hp)(x:V)(v vl vu:Value)(lo hi:Option Int)(sl:Addr)(Q:VK),Inv X pz σ H s->av x v->s.heap.IsSliceOf sl vl vu .none->ø vl lo->ø vu hi->r x lo hi H Q ->∃T id,Ā (.type T) "__getitem__" = pure (some (.builtin id))/\s.TypeIs v T/\p_ (u_ X.prog X.w) X.A (ÿ v (.ref sl)) (EP X pz σ Q) X.xe s
theorem jJ.or(h:jJ X r)(h':jJ X r'):jJ X (fun x lo L H Q=>r x lo L H Q\/r' x lo L H Q):=by
 intro c s U H x v Z Y lo L a Q I b f e d q;rcases q with q|q
 .exact h c s U H x v Z Y lo L a Q I b f e d q
 .exact h' c s U H x v Z Y lo L a Q I b f e d q
def VS(r:V->Option Int->Option Int->Hp->VK->Prop)(te:TE)(tl th:TO):TE:=fun σ H Q=>te σ H fun x H1=>tl σ H1 fun l H2=>th σ H2 fun u H3=>r x l u H3 Q
theorem zH(o:jJ X r)(w:PE X e te)(p:PO X lo tl)(m:PO X hi th):PE X (.Subscript e (.Slice lo hi none p2) pos) (VS r te tl th):=by intro U s L H Q I h;refine Subscript_ (aW (w U s L H _ I h) fun v d ⟨x,F,C,f,q1⟩=>?_);refine wpAny_Slice (aW (p U d L F _ C q1) fun Z c ⟨l,E,B,k,i⟩=>aW (m U c L E _ B i) fun Y s3 ⟨u,a,A,j,g⟩=>?_);refine e_ ?_;have z:Inv X U L a { s3 with heap:=s3.heap.push { cls:=.type "slice",data:=.fields #[Z,Y,.none] } }:=A.kept fun b G q=>a_ _ q;obtain⟨T,J,y,n,t⟩:=o U { s3 with heap:=s3.heap.push { cls:=.type "slice",data:=.fields #[Z,Y,.none] } } L a x v Z Y l u s3.heap.objs.size Q z f (Heap.IsSliceOf.new ..) k j g;exact tail_any n y t (by with_unfolding_all rfl)
def kR(xs:List V)(lo hi:Option Int):List V:=(xs.drop (HT.sIx xs.length 0 lo)).take (HT.sIx xs.length xs.length hi-HT.sIx xs.length 0 lo)
theorem J3(xs:List V)(lo L:Option Int):(kR xs lo L).length<=xs.length:=by unfold kR;rw[Zj,Ö];omega
def Dr(K:W.Frag):V->Option Int->Option Int->Hp->VK->Prop:=fun x lo hi H Q=>∃a xs,x=.ref a/\cg K H a xs /\¬ (HT.sIx xs.length 0 lo=0/\HT.sIx xs.length xs.length hi=xs.length)/\∀p,H p=none->Q (.ref p) (aO H p (.tup (kR xs lo hi)))
theorem Ge:jJ X (Dr X.K):=by
 intro p s l H x v n m lo k o Q I d j f e h;obtain⟨a,Y,rfl,g,i,q⟩:=h;cases d;obtain⟨U,r,c,Z⟩:=I.tuple g;have L:U.toArray.size=Y.length:=by exact r.length.symm
 refine⟨"tuple",_,YF.lookup,c.typeIs,?_⟩;refine HT.du c j f e (by rw[L];exact i) ?_ (by rw[L];exact Z);rw[L];refine⟨.ref s.heap.objs.size,_,I.laid (fun b t q=>a_ _ q) (q_ _) ?_,rfl,q _ (I.hok.fresh (q_ _))⟩;exact⟨Y1 (J3 Y lo k) Z,_,(r.drop _).take _,Ř _ _,_,i_ _ rfl,rfl⟩
def vN(K:W.Frag):R2:=fun x y H Q=>∃a b xs ys,x=.ref a/\y=.ref b/\cg K H a xs/\cg K H b ys/\xs≠[]/\xs.length+ys.length<=sizeLine /\(ys=[]->Q (.ref a) H)/\(ys≠[]->∀p,H p=none->Q (.ref p) (aO H p (.tup (xs++ys))))
theorem ar.nil_iff(r:ar xs L):L=[]↔xs=[]:=by cases r with
|nil=>simp
|cons _ _=>simp
theorem Gz:br X (ZY .Add) (vN X.K):=by intro r s p H x y v u Q I f e h;obtain⟨a,b,d,c,rfl,rfl,n,m,l,Z,q1,g⟩:=h;cases f;cases e;obtain⟨k,Y,j,_⟩:=I.tuple n;obtain⟨L,U,i,_⟩:=I.tuple m;refine HT.kS j i (fun z=>l (Y.nil_iff.mp z)) (fun z=>⟨.ref a,H,I,rfl,q1 (U.nil_iff.mp z)⟩) (fun z=>?_) (by rw[<-Y.length,<-U.length];exact Z);refine⟨.ref s.heap.objs.size,_,I.laid (t':=s.toks) (o:=.tup (d++c)) (fun b t q=>a_ _ q) (q_ _) ?_,rfl,g (fun w=>z (U.nil_iff.mpr w)) _ (I.hok.fresh (q_ _))⟩;exact⟨by rw[D_];exact Z,_,Y.append U,Ř _ _,_,i_ _ rfl,rfl⟩
end
def iI(n:Nat)(i:Int):Option Nat:=if 0<=i then(if i<n then some i.toNat else none)else if-(n:Int)<=i then some (i+n).toNat else none
def gK{α:Type}(xs:List α)(i:Int):Option α:=(iI xs.length i).bind fun j=>xs[j]?
theorem GW(h:iI n i=some j):ģ i n=some j/\j<n/\-(n:Int)<=i/\i<n:=by
 unfold iI at h;by_cases U:0<=i
 .rw[Q_e U]at h;by_cases L:i<n
  .rw[Q_e L]at h;have e:i.toNat=j:=K_ h;exact⟨by rw[ļ U L,e],by omega,by omega,L⟩
  .rw[Q_f L]at h;cases h
 .rw[Q_f U]at h;by_cases L : -(n:Int)<=i
  .rw[Q_e L]at h;have e:(i+n).toNat=j:=K_ h;exact⟨by rw[seqIndex_neg (by omega) L,e],by omega,L,by omega⟩
  .rw[Q_f L]at h;cases h
theorem xX{v:L}(h:gK xs i=some v):∃j,ģ i xs.length=some j/\xs[j]? = some v/\j<xs.length/\-(xs.length:Int)<=i/\i<xs.length:=by unfold gK at h;cases e:iI xs.length i with
|none=>rw[e]at h;cases h
|some j=>rw[e]at h;obtain⟨a,Z,Y,U⟩:=GW e;exact⟨j,a,h,Z,Y,U⟩
def xW(b:Expr):Prop:=∀o i,subscripted b false o i=operate [o,i] (ÿ o i)
def jO(X:Cx)(r:R2):Prop:=∀(value slice:Expr)(pz:List (Addr×Obj))(s:c_)(σ:St)(H:Hp)(x y:V)(v u:Value)(Q:VK),Inv X pz σ H s->av x v->av y u->r x y H Q ->subscripted slice false v u=operate [v,u] (ÿ v u)->p_ (u_ X.prog X.w) X.A (subscriptTail value slice v u) (EP X pz σ Q) X.xe s
def mS(X:Cx)(id:String)(r:V->List V->Hp->VK->Prop):Prop:=∀(pz:List (Addr×Obj))(s:c_)(σ:St)(H:Hp)(x:V)(xs:List V)(v:Value)(us:List Value)(Q:VK),Inv X pz σ H s->av x v->ar xs us->r x xs H Q ->p_ (u_ X.prog X.w) X.A (call (.builtin id) (v::us)) (EP X pz σ Q) X.xe s
section
variable{a b:Expr}{ta tb:TE}
theorem jO.or{r r':R2}(h:jO X r)(h':jO X r'):jO X (fun x y H Q=>r x y H Q\/r' x y H Q):=by
 intro L U b s Y H x y v u Q I a Z q c;rcases q with q|q
 .exact h L U b s Y H x y v u Q I a Z q c
 .exact h' L U b s Y H x y v u Q I a Z q c
theorem LM(d:jO X r)(f:PE X a ta)(e:PE X b tb)(hs:xW b):PE X (.Subscript a b pos) (nX r ta tb):=by intro c s L H Q I h;exact Subscript_ (mM f e I h fun v u U x y i g Z Y q=>d a b c U L i x y v u Q g Z Y q (hs _ _))
def qv(K:W.Frag):R2:=fun x y H Q=>∃p xs i v,x=.ref p/\y=.int i/\bp K H p xs/\gK xs i=some v/\Q v H
def qt(K:W.Frag):R2:=fun x y H Q=>∃p xs i v,x=.ref p/\y=.int i/\cg K H p xs/\gK xs i=some v/\Q v H
def qu:R2:=fun x y H Q=>∃z i c,x=.str z/\y=.int i/\z.length<=sizeLine/\gK z.cps.toList i=some c/\Q (.str ⟨#[c]⟩) H
theorem NT:jO X (qv X.K):=by
 intro Y Z d s c H x y v u Q I m l h e;obtain⟨p,F,i,z,rfl,rfl,n,A,q⟩:=h;cases m;obtain⟨t,rfl⟩:=l;obtain⟨b,r,a,G⟩:=I.list n;obtain⟨j,U,E,M,C,B⟩:=xX A;obtain⟨w,g,L⟩:=r.get E;have o:=r.length;have J:=oU;have fin:EP X d c Q w s:=⟨z,H,I,L,q⟩
 by_cases f:0<=i
 .have hj:i.toNat=j:=by rw[ļ f B]at U;exact K_ U
  exact item_listR a.isList f (by omega) (by rw[hj];simpa using g) fin e
 .have hj:(i+(b.toArray.size:Int)).toNat=j:=by rw[seqIndex_neg (by omega) C]at U;rw[A_,<-o];exact K_ U
  exact QcX (x:=w) a.isList.typeIs Qem.lookup
   (wpAny_getItem_list_neg (Q:=fun r k=>r=w/\EP X d c Q r k) a.isList (by omega) (by rw[A_] <;> omega) (by omega) (by rw[hj];simpa using g) ⟨rfl,fin⟩) e
theorem Mt:jO X (qt X.K):=by
 intro U Y a s Z H x y v u Q I e d h g;obtain⟨p,B,i,z,rfl,rfl,k,m,q⟩:=h;cases e;obtain⟨t,rfl⟩:=d;obtain⟨f,r,b,C⟩:=I.tuple k;obtain⟨j,o,n,J,G,F⟩:=xX m;obtain⟨w,A,L⟩:=r.get n;have l:=r.length;have E:=oU;have fin:EP X a Z Q w s:=⟨z,H,I,L,q⟩
 exact QcX (x:=w) b.typeIs YF.lookup
  (getItem_tuple (j:=j) (Q:=fun r c=>r=w/\EP X a Z Q r c) b (by omega) (by omega) (by rw[A_,<-l];exact o) (by simpa using A) ⟨rfl,fin⟩) g
theorem Ms:jO X qu:=by
 intro L U m s k H x y v u Q I Z Y h a;obtain⟨z,i,c,rfl,rfl,n,d,q⟩:=h;obtain⟨t,rfl⟩:=Z;obtain⟨l,rfl⟩:=Y;obtain⟨j,g,r,p,f,e⟩:=xX d;have b:z.cps.toList.length=z.length:=by simp[Str.length]
 rw[b]at g f e;have o:=oU;exact tail_any (typeIs_str s z t) slot_str_getitem.lookup (getItem_str (c:=c) (by grind) (by grind) ⟨.str ⟨#[c]⟩,H,I.tok _,⟨_,rfl⟩,q⟩) a
def Dt(K:W.Frag):R2:=fun x y H Q=>qv K x y H Q\/qt K x y H Q\/qu x y H Q
theorem Mr:jO X (Dt X.K):=NT.or (Mt.or Ms)
theorem Tc(its:List Value)(n j:Nat)(u:Value):Y6 (·.setIfInBounds j u) { cls:=.type "list",data:=.seq its.toArray n }={ cls:=.type "list",data:=.seq (its.set j u).toArray n }:=by simp[Y6]
theorem Inv.lst{pz:List (Addr×Obj)}{σ:St}{H:Hp}{s:c_}{p:Addr}{xs:List V}(I:Inv X pz σ H s)(h:H p=some (.lst xs)):∃(its:List Value)(n:Nat),ar xs its/\s.heap.get? p=some { cls:=.type "list",data:=.seq its.toArray n }/\xs.length<=sizeLine:=by obtain⟨z,its,n,r,e⟩:=I.hok p _ h;exact⟨its,n,r,e,z⟩
theorem Inv.lstUpd{σ:St}{its its':List Value}{n U:Nat}{f:Obj->Obj}(I:Inv X pz σ H s)(h:H p=some (.lst xs))(Z:s.heap.get? p=some { cls:=.type "list",data:=.seq its.toArray n })(Y:f { cls:=.type "list",data:=.seq its.toArray n }={ cls:=.type "list",data:=.seq its'.toArray U })(r:ar L its')(hz:L.length<=sizeLine)(t:Nat):Inv X pz σ (aO H p (.lst L)) { s with heap:=s.heap.update p f,toks:=t }:=by
 have e:(s.heap.update p f).get? p=some { cls:=.type "list",data:=.seq its'.toArray U }:=by rw[YM f Z (by rw[Y] <;> rfl),Y]
 refine I.write (by rw[h];trivial) (.inl rfl) (fun b u a q=>(U_ _ _ (ZM a)).trans q) ⟨_,e⟩ ?_;exact⟨hz,its',U,r,e⟩
def EO:V->V->V->Hp->(Hp->Prop)->Prop:=fun o i v H Q=>∃p xs k j,o=.ref p/\i=.int k/\H p=some (.lst xs)/\iI xs.length k=some j/\Q (aO H p (.lst (xs.set j v)))
theorem Qt:gC X EO:=by
 intro x s f H o i v A B u Q I m w l h;obtain⟨p,g,k,j,rfl,rfl,a,z,q⟩:=h;cases m;obtain⟨t,rfl⟩:=w;obtain⟨L,n,r,Y,y⟩:=I.lst a;obtain⟨U,E,c,b⟩:=GW z;have Z:=r.length;have C:=oU;have e:Inv X x f (aO H p (.lst (g.set j v))) { s with heap:=s.heap.update p (Y6 (·.setIfInBounds j u)) }:=I.lstUpd a Y (Tc L n j u) (r.set l j) (by rw[YN];exact y) s.toks;by_cases d:0<=k
 .have hk:k.toNat=j:=by rw[ļ d b]at U;exact K_ U
  exact W.ki_setAt Y d (by omega) (by rw[A_,<-Z];exact b) (by rw[hk];exact⟨_,e,q⟩)
 .have hk:(k+(L.toArray.size:Int)).toNat=j:=by rw[seqIndex_neg (by omega) c]at U;rw[A_,<-Z];exact K_ U
  exact W.ki_setBack Y (by omega) (by rw[A_,<-Z];exact c) (by omega) (by rw[hk];exact⟨_,e,q⟩)
theorem Ui(lo L:Option Int)(n:Nat):(Ñ lo L none n).1=((HT.sIx n 0 lo:Nat):Int)/\(Ñ lo L none n).2.1=((HT.sIx n n L:Nat):Int)/\(Ñ lo L none n).2.2=1:=by
 refine⟨?_,?_,rfl⟩
 .cases lo with
 |none=>simp[Ñ,HT.sIx]
 |some i=>
   simp only[Ñ,HT.sIx,Q_o]
   grind
 .cases L with
 |none=>simp[Ñ,HT.sIx]
 |some i=>
   simp only[Ñ,HT.sIx,Q_o]
   grind
theorem Uw(its:List Value)(lo L:Option Int):slicePick its.toArray lo L none=((its.drop (HT.sIx its.length 0 lo)).take (HT.sIx its.length its.length L-HT.sIx its.length 0 lo)).toArray:=by obtain⟨Z,Y,U⟩:=Ui lo L its.toArray.size;unfold slicePick;rw[Z,Y,U];simp only[sliceRange_one,pick_run] <;> rfl
def Ds(K:W.Frag):V->Option Int->Option Int->Hp->VK->Prop:=fun x lo hi H Q=>∃a xs,x=.ref a/\bp K H a xs/\∀p,H p=none->Q (.ref p) (aO H p (.lst (kR xs lo hi)))
theorem yY:jJ X (Ds X.K):=by intro o s k H x v m l lo j n Q I Z i d c h;obtain⟨a,Y,rfl,g,q⟩:=h;cases Z;obtain⟨e,r,U,f⟩:=I.list g;have L:=r.length;refine⟨"list",_,Qem.lookup,U.isList.typeIs,?_⟩;refine wpAny_getItem_list_slice U.isList i d c .none (by simp) ?_ (by simp_all);rw[Uw,<-L];refine⟨.ref s.heap.objs.size,_,I.laid (fun b p q=>a_ _ q) (q_ _) ?_,rfl,q _ (I.hok.fresh (q_ _))⟩;exact⟨Y1 (J3 Y lo j) f,_,0,(r.drop _).take _,i_ _ rfl⟩
def gm:V->Bool
|.non=>true
|.bl _=>true
|.int _=>true
|.str _=>true
|_=>false
def iL:V->V->Bool
|.non,.non=>true
|.bl a,.bl b=>a==b
|.bl a,.int b=>(if a then 1 else 0)==b
|.int a,.bl b=>a==(if b then 1 else 0)
|.int a,.int b=>a==b
|.str a,.str b=>a==b
|_,_=>false
theorem Lg(Y:av y u)(L:av x v)(c:gm y=true)(Z:gm x=true):Qe2 A s u v (iL y x):=by cases y with
|non=>cases Y;cases x with
 |non=>cases L;exact SeqAt.EqAt.same _
 |bl b=>cases L;exact SeqAt.EqAt.none_bool b
 |int b=>obtain⟨t,rfl⟩:=L;exact SeqAt.EqAt.none_int b t
 |str b=>obtain⟨t,rfl⟩:=L;exact SeqAt.EqAt.none_str b t
 |_=>exact Q_g (show false=true from Z) y_
|bl a=>cases Y;cases x with
 |non=>cases L;exact SeqAt.EqAt.bool_none a
 |bl b=>cases L;exact SeqAt.EqAt.bool_bool a b
 |int b=>obtain⟨t,rfl⟩:=L;exact SeqAt.EqAt.bool_int a b t
 |str b=>obtain⟨t,rfl⟩:=L;exact SeqAt.EqAt.bool_str a b t
 |_=>exact Q_g (show false=true from Z) y_
|int a=>obtain⟨U,rfl⟩:=Y;cases x with
 |non=>cases L;exact SeqAt.EqAt.int_none a U
 |bl b=>cases L;exact SeqAt.EqAt.int_bool a U b
 |int b=>obtain⟨t,rfl⟩:=L;exact Qd3 a U b t
 |str b=>obtain⟨t,rfl⟩:=L;exact QdZ a U b t
 |_=>exact Q_g (show false=true from Z) y_
|str a=>obtain⟨U,rfl⟩:=Y;cases x with
 |non=>cases L;exact SeqAt.EqAt.str_none a U
 |bl b=>cases L;exact SeqAt.EqAt.str_bool a U b
 |int b=>obtain⟨t,rfl⟩:=L;exact Qd0 a U b t
 |str b=>obtain⟨t,rfl⟩:=L;exact SeqAt.EqAt.str_str a U b t
 |_=>exact Q_g (show false=true from Z) y_
|_=>exact Q_g (show false=true from c) y_
def iM(x:V)(u:Value):Bool:=match u with
|.none=>iL .non x
|.bool b=>iL (.bl b) x
|.int i _=>iL (.int i) x
|.str z _=>iL (.str z) x
|_=>false
theorem rR(r:av y u)(f:gm y=true):iM x u=iL y x:=by cases y with
|non=>cases r;rfl
|bl b=>cases r;rfl
|int i=>obtain⟨t,rfl⟩:=r;rfl
|str z=>obtain⟨t,rfl⟩:=r;rfl
|_=>exact Q_g (f) y_
theorem o5:∀{xs:List V}{L:List Value},ar xs L->xs.all gm=true->L.any (iM x)=xs.any fun y=>iL y x
|_,_,.nil,_=>rfl
|y::xs,u::L,.cons r t,f=>by rw[ĝ,R_]at f;rw[Ç,Ç,rR r f.1,o5 t f.2]
theorem mf(Y:av x v)(Z:gm x=true):∀{xs:List V}{U:List Value},ar xs U->xs.all gm=true->∀u∈U,Qe2 A s u v (iM x u)
|_,_,.nil,_=>fun u L=>by cases L
|y::xs,u::U,.cons r t,f=>fun a L=>by
  rw[ĝ,R_]at f;rcases s_.mp L with rfl|L
  .rw[rR r f.1];exact Lg r Y f.1 Z
  .exact mf Y Z t f.2 a L
def uR(x:V)(xs:List V):Bool:=xs.any fun y=>iL y x
def Du(K:W.Frag)(neg:Bool):R2:=fun x y H Q=>∃p xs,y=.ref p/\(bp K H p xs\/cg K H p xs)/\gm x=true/\xs.all gm=true/\Q (.bl (if neg then ! uR x xs else uR x xs)) H
theorem RM:br X (YK .In) (Du X.K false):=by
 intro e s c H x y v u Q I Z b h;obtain⟨p,d,rfl,L,a,U,q⟩:=h;cases b;rcases L with L|L
 .obtain⟨its,r,pl,hz⟩:=I.list L;refine SeqAt.in_listAt _ pl.isList (fun w Y=>mf Z a r U w (by simpa using Y)) ⟨.bl _,H,I,rfl,?_⟩;rw[show its.toArray.any _=its.any (iM x)by simp,o5 r U];exact q
 .obtain⟨its,r,pl,hz⟩:=I.tuple L;refine SeqAt.in_tupleAt _ pl (fun w Y=>mf Z a r U w (by simpa using Y)) ⟨.bl _,H,I,rfl,?_⟩;rw[show its.toArray.any _=its.any (iM x)by simp,o5 r U];exact q
theorem T6:br X (YK .NotIn) (Du X.K true):=by
 intro e s c H x y v u Q I Z b h;obtain⟨p,d,rfl,L,a,U,q⟩:=h;cases b;rcases L with L|L
 .obtain⟨its,r,pl,hz⟩:=I.list L;refine SeqAt.notIn_listAt _ pl.isList (fun w Y=>mf Z a r U w (by simpa using Y)) ⟨.bl _,H,I,rfl,?_⟩;rw[show its.toArray.any _=its.any (iM x)by simp,o5 r U];exact q
 .obtain⟨its,r,pl,hz⟩:=I.tuple L;refine SeqAt.notIn_tupleAt _ pl (fun w Y=>mf Z a r U w (by simpa using Y)) ⟨.bl _,H,I,rfl,?_⟩;rw[show its.toArray.any _=its.any (iM x)by simp,o5 r U];exact q
theorem T7:br X (YK .NotIn) (fun x y H Q=>∃i j,x=.str i/\y=.str j/\Q (.bl (!(!(ZR j i 0 j.length 1).isEmpty))) H):=by intro a s Y H x y v u Q I U L h;obtain⟨i,j,rfl,rfl,q⟩:=h;obtain⟨t,rfl⟩:=U;obtain⟨Z,rfl⟩:=L;exact notIn_str ⟨.bl _,H,I,rfl,q⟩
theorem dJ.or(h:dJ X f r)(h':dJ X f r'):dJ X f (fun xs H Q=>r xs H Q\/r' xs H Q):=by
 intro Z s L H xs U Q I Y q;rcases q with q|q
 .exact h Z s L H xs U Q I Y q
 .exact h' Z s L H xs U Q I Y q
theorem Uk:dJ X (.type "list") (fun xs H Q=>∃p U,xs=[.ref p]/\(bp X.K H p U\/cg X.K H p U)/\∀l,H l=none->Q (.ref l) (aO H l (.lst U))):=by
 intro v s m H xs y Q I r h;obtain⟨p,U,rfl,Z,q⟩:=h;obtain⟨u,rfl,t⟩:=bA r;cases t;have fin:∀(L:List Value),ar U L->U.length<=sizeLine->∀(c:Heap)(j:Nat),(∀b k,s.heap.get? b=some k->c.get? b=some k) ->c.get? s.heap.objs.size=some { cls:=.type "list",dict:=none,data:=.seq L.toArray j,slots:=#[] }->EP X v m Q _ { s with heap:=c }:=fun L Y d c j x e=>⟨.ref s.heap.objs.size,_,I.laid x (q_ _) (show df X.prog X.w _ c _ (.lst U)from⟨d,L,j,Y,e⟩),rfl,q _ (I.hok.fresh (q_ _))⟩
 rcases Z with Z|Z
 .obtain⟨L,Y,pl,d⟩:=I.list Z;have a:=Y.length;obtain⟨o,f,i,n,g⟩:=pl.isList;exact call_list_seq p (.inl rfl) f i g (by grind) (by grind)
 .obtain⟨L,Y,pl,d⟩:=I.tuple Z;have a:=Y.length;obtain⟨o,f,i,n,g⟩:=pl;exact call_list_seq p (.inr rfl) f i g (by grind) (by grind)
theorem UB:dJ X (.type "tuple") (fun xs H Q=>∃p L,xs=[.ref p]/\((bp X.K H p L/\∀l,H l=none->Q (.ref l) (aO H l (.tup L)))\/(cg X.K H p L/\Q (.ref p) H))):=by
 intro j s g H xs i Q I r h;obtain⟨p,L,rfl,h⟩:=h;obtain⟨u,rfl,a⟩:=bA r;cases a;rcases h with⟨U,q⟩|⟨U,q⟩
 .obtain⟨its,r',pl,hz⟩:=I.list U;have Y:=r'.length;refine call_tuple_list pl.isList (fun d c=>?_) (by simp_all);have Z:=I.kept (t':=s.toks) c;have f:=Z.laid (t':=s.toks) (fun b o e=>a_ _ e) (q_ _) (show df X.prog X.w _ _ _ (.tup L)from⟨hz,its,r',Ř _ _,_,i_ _ rfl,rfl⟩);exact⟨.ref d.objs.size,_,f,rfl,q _ (Z.hok.fresh (q_ _))⟩
 .obtain⟨its,r',pl,hz⟩:=I.tuple U;exact call_tuple_same pl ⟨.ref p,H,I,rfl,q⟩
def nW(K:W.Frag)(T:String)(x:V)(H:Hp):Prop:=match x with
|.str _=>T = "str"
|.int _=>T = "int"
| .ref p=>(T = "list"/\∃xs,bp K H p xs)\/(T = "tuple"/\((∃o,K.lookup p=some o/\o.cls=.type "tuple"/\o.dict=none)\/∃xs,Rd H p (.tup xs))) \/
   (T = "dict"/\((∃kvs,Rd H p (.dK kvs))\/∃kvs,H p=some (.dT kvs)))\/(T = "set"/\∃S n,H p=some (.set S n))
|_=>False
theorem Om{σ:St}{v:Value}(I:Inv X pz σ H s)(r:av x v)(U:nW X.K T x H):s.TypeIs v T/\∀a,v=.ref a->∃g,s.heap.get? a=some g/\g.dict=none:=by cases x with
|str z=>obtain⟨t,rfl⟩:=r;cases(U);exact⟨typeIs_str s z t,fun _ e=>nomatch e⟩
|int i=>obtain⟨t,rfl⟩:=r;cases(U);exact⟨Qe5 s i t,fun _ e=>nomatch e⟩
|ref p=>
  cases r;rcases U with⟨rfl,h,Z⟩|⟨rfl,⟨o,L,d,b⟩|⟨h,Z⟩⟩|⟨rfl,L⟩|⟨rfl,S,n,L⟩
  .obtain⟨its,_,pl,_⟩:=I.list Z;refine⟨pl.isList.typeIs,fun a e=>?_⟩;cases e;obtain⟨o,n,e,c,b,_⟩:=pl;exact⟨o,e,b⟩
  .refine⟨⟨o,I.kIn p o L,d⟩,fun a e=>?_⟩;cases e;exact⟨o,I.kIn _ o L,b⟩
  .obtain⟨_,its,_,⟨o,ho,d,_⟩,o2,ho2,hd2⟩:=Z.ok I.hok;refine⟨⟨o,ho,d⟩,fun a e=>?_⟩
   grind
  .have z:∃o,s.heap.get? p=some o/\o.ExactDict:=by
    rcases L with⟨Y,L⟩|⟨Y,L⟩
    .obtain⟨_,_,_,_,o,_,_,e,ex,_⟩:=(L.ok I.hok)
     exact⟨o,e,ex⟩
    .obtain⟨_,_,_,_,o,_,_,e,ex,_⟩:=I.hok p _ L;exact⟨o,e,ex⟩
   obtain⟨o,e,ex⟩:=z;refine⟨⟨o,e,ex.1⟩,fun a f=>?_⟩;cases f;exact⟨o,e,ex.2.1⟩
  .obtain⟨o,_,_,_,e,ex,_⟩:=I.hok p _ L;refine⟨⟨o,e,ex.1⟩,fun a f=>?_⟩;cases f;exact⟨o,e,ex.2.1⟩
|_=>exact ZU U
def VZ(K:W.Frag)(T:String)(r:V->List V->Hp->VK->Prop)(to:TE)(t:TA):TE:=fun σ H Q=>to σ H fun x H1=>nW K T x H1/\t σ H1 fun xs H2=>r x xs H2 Q
variable{o:Expr}{es:List Expr}{to:TE}{t:TA}{name:Str}{apos cpos:Pos}{T id:String}{r:V->List V->Hp->VK->Prop}
theorem vX(q:ľ T)(a:Slot T name id)(B:typeOf (.builtin id)=pure (.type "method_descriptor"))(w:mS X id r)(u:PE X o to)(y:PA X (e::es) t)(U:Ì o name X.env (eval o X.env)=eval o X.env:=by rfl)(Z:((backTo cpos (f_ (e::es) X.env)).all (fun x=>! x.1)&&(Ò cpos (Ð [] X.env)).all (fun x=>x.1.isSome)
   && decide ((e::es).length+([]:List À).length+(if ([]:List À).isEmpty then 0 else 1)<30))=true:=by rfl)(Y:(apos.endLine==cpos.line)=true:=by rfl)(hs:f_ (e::es) X.env=(false,eval e X.env)::f_ es X.env:=by rfl)(L:(backTo cpos (f_ es X.env)).any (·.1)=false:=by rfl):PE X (.Call (.Attribute o name apos) (e::es) [] cpos) (VZ X.K T r to t):=by intro c s b H Q I h;refine wpAny_Call_method_late U Z Y rfl (aW (u c s b H _ I h) fun v m e=>?_);obtain⟨x,F,g,d,k,q1⟩:=e;obtain⟨A,z⟩:=Om g d k;refine⟨T,id,q,a,B,A,z,?_⟩;have f:=y cpos c m b F _ g q1;rw[hs]at f ⊢;refine Calls.callWith_builtin (by show(false || (backTo cpos (f_ es X.env)).any (·.1))=false;rw[L] <;> rfl) (Calls.evalArgs_plain ?_);exact aW f fun j l o=>by obtain⟨i,E,C,n,p⟩:=o;exact w c l b E x i v j Q C d n p
end
def DV(X:Cx)(id:String)(r:V->List V->Hp->VK->Prop):Prop:=∀(pz:List (Addr×Obj))(s:c_)(σ:St)(H:Hp)(x:V)(xs:List V)(v:Value)(us:List Value)(Q:VK),Inv X pz σ H s->av x v->ar xs us->r x xs H Q ->p_ (u_ X.prog X.w) X.A (call (.builtin id) (v::us)) (EP X pz σ Q) X.xe s
theorem ar.one(h:ar [x] L):∃u,L=[u]/\av x u:=by cases h with
|cons r t=>cases t;exact⟨_,rfl,r⟩
theorem ar.eraseIdx:∀{xs:List V}{L:List Value}(i:Nat),ar xs L->ar (xs.eraseIdx i) (L.eraseIdx i)
|_,_,_,.nil=>.nil
|_,_,0,.cons _ t=>t
|_,_,i+1,.cons r t=>.cons r (ar.eraseIdx i t)
theorem ar.rep(h:ar xs L):∀k:Nat,ar (t_ k xs).flatten (t_ k L).flatten
|0=>.nil
|k+1=>by exact ar.append h (ar.rep h k)
theorem IQ{L:Type}:∀(l:List L)(i:Nat),(l.eraseIdx i).length<=l.length
|[],_=>q_ _
|_::_,0=>Ċ _
|_::r,i+1=>Nat.succ_le_succ (IQ r i)
theorem IJ(its:List Value):∀(k:Nat)(L:List Value),É (fun x1 U=>x1++U) L.toArray (t_ k its.toArray)=(L++(t_ k its).flatten).toArray
|0,L=>by simp
|k+1,L=>by
  have e:L.toArray++its.toArray=(L++its).toArray:=by simp
  have Y:(L++its)++(t_ k its).flatten=L++(t_ (k+1) its).flatten:=by grind
  rw[<-Y,<-IJ its k _,<-e,List.replicate_succ,ě]
variable{pz:List (Addr×Obj)}{σ:St}{H:Hp}{s:c_}
section
variable{l b:Addr}{xs ys zs:List V}
theorem Inv.lset{its its':List Value}(I:Inv X pz σ H s)(a:H l=some (.lst xs))(e:s.heap.get? l=some { cls:=.type "list",data:=.seq its.toArray n })(Y:f its.toArray=its'.toArray)(L:ar ys its')(hz:ys.length<=sizeLine):Inv X pz σ (aO H l (.lst ys)) { s with heap:=s.heap.update l (Y6 f),toks:=t' }:=by have q:=PySem.IsL.update e f;rw[Y]at q;refine I.write (by rw[a];exact trivial) (.inl rfl) (fun b u Z U=>(U_ s.heap _ (ZM Z)).trans U) ⟨_,q⟩ ?_;exact⟨hz,its',_,L,q⟩
theorem Inv.lnew(I:Inv X pz σ H s)(L:ar ys its)(hz:ys.length<=sizeLine):Inv X pz σ (aO H s.heap.objs.size (.lst ys)) { s with heap:=s.heap.push { cls:=.type "list",data:=.seq its.toArray },toks:=t' }:=I.laid (fun _ _ q=>a_ _ q) (q_ _) ⟨hz,its,0,L,i_ _ rfl⟩
theorem Inv.fresh(I:Inv X pz σ H s):H s.heap.objs.size=none:=I.hok.fresh (q_ _)
theorem Inv.lstM(I:Inv X pz σ H s)(L:H l=some (.lst xs)):xs.length<=sizeLine/\∃(its:List Value)(n:Nat),ar xs its/\xs.length=its.length/\s.heap.get? l=some { cls:=.type "list",data:=.seq its.toArray n }:=by obtain⟨z,its,n,r,e⟩:=I.hok l _ L;exact⟨z,its,n,r,r.length,e⟩
theorem Q6(h:n<=sizeLine):ZO n=false:=by unfold ZO;simp_all
end
def GK:V->List V->Hp->VK->Prop:=fun x vs H Q=>∃l xs y,x=.ref l/\vs=[y]/\H l=some (.lst xs)/\xs.length<sizeLine/\Q .non (aO H l (.lst (xs++[y])))
theorem jr:DV X "list.append" GK:=by intro g s b H x d v f Q I Y Z h;obtain⟨l,c,y,rfl,rfl,U,i,q⟩:=h;cases Y;obtain⟨u,rfl,a⟩:=Z.one;obtain⟨z,L,n,r,j,e⟩:=I.lstM U;refine õ F.slot_list_append ⟨_,e,rfl⟩ F.entry_list_append (F.args_list_append_2 _ _) (PySem.list_append l L.toArray n u (by rw[A_];omega)) ⟨e,?_⟩;refine⟨.non,_,I.lset (its':=L++[u]) U e (by simp) (r.append (.cons a .nil)) ?_,rfl,q⟩;rw[D_,Yz];assumption
def F4:V->List V->Hp->VK->Prop:=fun x vs H Q=>∃l xs i k y,x=.ref l/\vs=[.int i]/\H l=some (.lst xs)/\-(2^63)<=i/\i<2^63/\ģ i xs.length=some k/\xs[k]? = some y/\Q y (aO H l (.lst (xs.eraseIdx k)))
theorem HP:DV X "list.pop" F4:=by
 intro C s p H x A v B Q I a b h;obtain⟨l,Z,i,k,y,rfl,rfl,Y,o,m,j,d,q⟩:=h;cases a;obtain⟨u,rfl,c⟩:=b.one;obtain⟨t,rfl⟩:=c;obtain⟨z,U,n,r,g,e⟩:=I.lstM Y;obtain⟨w,f,L⟩:=r.get d;refine õ F.slot_list_pop ⟨_,e,rfl⟩ F.entry_list_pop (F.args_list_pop_2 _ _)
  (MeetsSeq.list_pop_at l U.toArray n i t k w (fitsIndex_both o m) (by rw[A_,<-g];exact j) (by rw[<-N_];exact f) (by rw[A_];omega)) ⟨e,?_⟩
 refine⟨y,_,I.lset (its':=U.eraseIdx k) Y e ?_ (r.eraseIdx k) ?_,L,q⟩
 .show U.toArray.eraseIdxIfInBounds k=(U.eraseIdx k).toArray;rw[List.eraseIdxIfInBounds_toArray]
 .have:=IQ Z k;omega
theorem GM{L:Type}(xs:List L)(k:Nat):(t_ k xs).flatten.length=k*xs.length:=by simp_all
section
variable{κ:Type}[DecidableEq κ]
def dk(kvs:List (κ×V))(k:κ):Option V:=(kvs.find? fun kv=>decide (kv.1=k)).map (·.2)
def dC(kvs:List (κ×V))(k:κ)(v:V):List (κ×V):=if (kvs.any fun kv=>decide (kv.1=k))=true then kvs.map (fun kv=>if kv.1=k then(kv.1,v)else kv)else kvs++[(k,v)]
theorem sQ{k:κ}(e:p.1=k):dk (p::r) k=some p.2:=by simp[dk,Y4,e]
theorem pB{k:κ}(e:¬ p.1=k):dk (p::r) k=dk r k:=by simp[dk,Y4,e]
theorem HK(k:κ):∀L:List (κ×V),(L.any fun U=>decide (U.1=k))=(dk L k).isSome
|[]=>rfl
|p::r=>by
  rw[Ç];by_cases e:p.1=k
  .simp only[sQ e,Q_d e,Bool.true_or,Option.isSome_some]
  .rw[pB e,Q_c e,Qfv];exact HK k r
theorem JV(L:List (κ×V))(k:κ)(v:V):(dC L k v).length<=L.length+1:=by
 unfold dC
 grind
theorem da.isSome_eq(r:da o u):o.isSome=u.isSome:=by cases o with
|none=>cases u with
 |none=>rfl
 |some _=>exact(r).elim
|some _=>cases u with
 |none=>exact(r).elim
 |some _=>rfl
theorem KV.val(r:KV L vs)(k:κ):da (dk L k) (Ć vs k):=by induction r with
|nil=>exact True.intro
|@cons p q c U h t Z=>
  obtain⟨Y,a⟩:=h;by_cases e:p.1=k
  .have e':=Y.symm.trans e;have b:Ć (q::U) k=some q.2:=by simp[Ć,Y4,e']
   rw[sQ e,b];exact a
  .have e':¬ q.1=k:=fun z=>e (Y.trans z);have b:Ć (q::U) k=Ć U k:=by simp[Ć,Y4,e']
   rw[pB e,b];exact Z
theorem KV.any(r:KV L vs)(k:κ):(L.any fun U=>decide (U.1=k))=vs.any fun U=>decide (U.1=k):=by
 unfold KV at r
 induction r with
|nil=>rfl
|cons h t Y=>rw[Ç,Ç,Y,h.1]
theorem KV.repl(r:KV U vs)(k:κ)(Z:av y u):KV (U.map fun L=>if L.1=k then(L.1,y)else L) (vs.map fun L=>if L.1=k then(L.1,u)else L):=by induction r with
|nil=>exact .nil
|@cons p q b a h t Y=>
  refine .cons ?_ Y
  grind
theorem KV.put(r:KV L vs)(k:κ)(U:av y u):KV (dC L k y) (stored vs k u):=by
 unfold dC stored;rw[r.any k];by_cases e:(vs.any fun Y=>decide (Y.1=k))=true
 .rw[Q_e e,Q_e e];exact r.repl k U
 .rw[Q_f e,Q_f e];exact Paired.snoc r ⟨rfl,U⟩
theorem KV.length{vs:List (κ×Value)}(r:KV L vs):L.length=vs.length:=Paired.length r
end
theorem oA(r:av (kV k) u):(gG P w).is k u=true:=by cases k with
|inl i=>obtain⟨t,e⟩:=(r);subst e;exact TU P w i t
|inr x=>obtain⟨t,e⟩:=(r);subst e;exact TV P w x t
theorem IL:∀{ks:List aU}{L:List Value},ar (ks.map kV) L->ItemsAre (gG P w) ks L
|[],_,r=>by cases r;exact .nil
|k::ks,_,r=>by cases r with
 |cons h t=>exact .cons (oA h) (IL t)
abbrev KT(H:Hp):List (List aU×V)->List (List aU×Addr×Value)->Prop:=Paired fun p q=>p.1=q.1/\H q.2.1=some (.tup (p.1.map kV))/\av p.2 q.2.2
theorem KT.val(r:KT H L xs)(k:List aU):da (dk L k) ((Ä xs k).map (·.2)):=by induction r with
|nil=>exact True.intro
|@cons p q c U h t Z=>
  obtain⟨Y,_,a⟩:=h;by_cases e:p.1=k
  .have e':=Y.symm.trans e;have b:Ä (q::U) k=some q.2:=by simp[Ä,Y4,e']
   rw[sQ e,b];exact a
  .have e':¬ q.1=k:=fun z=>e (Y.trans z);have b:Ä (q::U) k=Ä U k:=by simp[Ä,Y4,e']
   rw[pB e,b];exact Z
theorem KT.repl(r:KT H L xs)(k:List aU)(a:av y u):KT H (L.map fun Y=>if Y.1=k then(Y.1,y)else Y) (xs.map (putAt k u)):=by induction r with
|nil=>exact .nil
|@cons p q f d h t b=>
  rw[Yx,Yx];refine .cons ?_ b;obtain⟨U,Z,c⟩:=h;unfold putAt;by_cases e:p.1=k
  .rw[Q_e e,Q_e (U.symm.trans e)];exact⟨U,Z,a⟩
  .rw[Q_f e,Q_f (fun z=>e (U.trans z))];exact⟨U,Z,c⟩
theorem KT.put(r:KT H L xs)(k:List aU)(Z:H b=some (.tup (k.map kV)))(U:av y u):KT H (dC L k y) (storedH xs k b u):=by
 have e:(L.any fun Y=>decide (Y.1=k))=(Ä xs k).isSome:=by rw[HK,(r.val k).isSome_eq,Qcm]
 unfold dC storedH;rw[e];by_cases q:(Ä xs k).isSome=true
 .rw[Q_e q,Q_e q];exact r.repl k U
 .rw[Q_f q,Q_f q];exact Paired.snoc r ⟨rfl,Z,U⟩
theorem KT.keeps(r:KT H L xs)(Z:∀b U,H b=some (.tup U)->Y b=some (.tup U)):KT Y L xs:=Paired.mapP r fun _ _ z=>⟨z.1,Z _ _ z.2.1,z.2.2⟩
variable{a:Addr}
section
variable{P:C_}{w:S_}{h:Heap}
theorem EQ(L:cS P w H h)(e:Rd H a u):df P w H h a u:=e.ok L
theorem mZ(U:cS P w H h)(e:Rd H a (.dK L)):L.length<=sizeLine/\(a==î)=false/\∃vs,KV L vs/\h.DictOf (gG P w) a vs:=EQ U e
theorem Vf(U:cS P w H h)(e:H a=some (.dK L)):L.length<=sizeLine/\(a==î)=false/\∃vs,KV L vs/\h.DictOf (gG P w) a vs:=mZ U (.inl e)
theorem oS(U:cS P w H h)(e:H a=some (.tup (ks.map kV))):(Ģ (gG P w)).is h ks a:=by
 obtain⟨_,L,r,⟨o,b,Z,n,Y⟩,_⟩:=(U a _ e)
 exact⟨o,L.toArray,n,b,Z,Y,by simpa using IL r⟩
theorem oa(Z:cS P w H h)(e:Rd H a (.dT L)):L.length<=sizeLine/\(a==î)=false /\∃xs,KT H L xs/\h.DictOfH (Ģ (gG P w)) a xs:=by
 obtain⟨z,y,xs,r,o,j,k,i,g,f,d,c⟩:=(EQ Z e)
 refine⟨z,y,xs,r,o,j,k,i,g,f,d,fun x U=>?_,c⟩;have Y:∀{l:List _}{m:List _},KT H l m->∀x∈m,(Ģ (gG P w)).is h x.1 x.2.1:=by
  intro l m q
  induction q with
 |nil=>simp_all
 |@cons p q s n u t b=>
   intro x U;rcases s_.mp U with e|U
   .exact oS Z (by simp_all)
   .exact b x U
 exact Y r x U
theorem Vh(U:cS P w H h)(e:H a=some (.dT L)):L.length<=sizeLine/\(a==î)=false /\∃xs,KT H L xs/\h.DictOfH (Ģ (gG P w)) a xs:=oa U (.inl e)
end
def iR(H:Hp)(a:Addr)(y:V)(r:Option V):Prop:=(∃kvs k,Rd H a (.dK kvs)/\y=kV k/\r=dk kvs k)\/∃kvs k b,Rd H a (.dT kvs)/\y=.ref b/\H b=some (.tup (k.map kV))/\r=dk kvs k
def jP(H:Hp)(a:Addr)(y v:V)(H':Hp):Prop:=(∃kvs k,H a=some (.dK kvs)/\y=kV k/\kvs.length<sizeLine/\H'=aO H a (.dK (dC kvs k v))) \/∃kvs k b,H a=some (.dT kvs)/\y=.ref b/\H b=some (.tup (k.map kV))/\kvs.length<sizeLine/\H'=aO H a (.dT (dC kvs k v))
theorem jP.k{k:aU}(e:H a=some (.dK L))(U:L.length<sizeLine):jP H a (kV k) v (aO H a (.dK (dC L k v))):=.inl ⟨L,k,e,rfl,U,rfl⟩
variable{u:Value}{A:T_}{E:Value->c_->Prop}
section
variable{y v:V}{r:Value}{o:Option V}
theorem Inv.big(I:Inv X pz σ H s):î<s.heap.objs.size:=by have h:=(I.mod.glob.keeps I.bk).lt;exact Nat.lt_trans (by decide) h
theorem Q7(n:A.units+1<Z9)(I:Inv X pz σ H s)(g:iR H a y (some v))(m:av y u)(h:∀Z j,Inv X pz σ H j->av v Z->Q Z j):p_ (u_ X.prog X.w) A (ÿ (.ref a) u) Q E s:=by
 rcases g with⟨c,k,e,f,l⟩|⟨c,k,b,e,f,r,l⟩
 .subst f;obtain⟨z,q,x,L,i⟩:=mZ I.hok e;obtain⟨Z,d,U⟩:=da.some_of (by rw[l];exact L.val k);exact wpAny_getItem_of (oA m) i.mapOf d (h Z _ (I.tok _) U)
 .subst f;cases(m);obtain⟨z,q,t,L,i⟩:=oa I.hok e;obtain⟨Z,d,U⟩:=da.some_of (by rw[l];exact L.val k);obtain⟨p,o,Y⟩:=Qbn.mp d;refine wpAny_getItem_heap (ĵ n) (oS I.hok r) i o ?_;rw[Y];exact h Z _ (I.tok _) U
theorem DM(i:A.units+1<Z9)(I:Inv X pz σ H s)(g:iR H a y o)(f:av y u)(h:∀d,Inv X pz σ H d->Q (.bool o.isSome) d):p_ (u_ X.prog X.w) A (YK .In u (.ref a)) Q E s:=by
 rcases g with⟨U,k,e,Z,l⟩|⟨U,k,b,e,Z,j,l⟩
 .subst Z;obtain⟨z,Y,n,L,c⟩:=mZ I.hok e;refine wpAny_in_of (oA f) Y c.mapOf ?_;rw[<-(L.val k).isSome_eq,<-l];exact h _ (I.tok _)
 .subst Z;cases(f);obtain⟨z,Y,m,L,c⟩:=oa I.hok e;refine wpAny_in_heap (ĵ i) (oS I.hok j) Y c ?_;have q:=(L.val k).isSome_eq;rw[Qcm]at q;rw[<-q,<-l];exact h _ (I.tok _)
theorem NG(i:A.units+1<Z9)(I:Inv X pz σ H s)(g:iR H a y o)(f:av y u)(h:∀d,Inv X pz σ H d->Q (.bool (! o.isSome)) d):p_ (u_ X.prog X.w) A (YK .NotIn u (.ref a)) Q E s:=by
 rcases g with⟨U,k,e,Z,l⟩|⟨U,k,b,e,Z,j,l⟩
 .subst Z;obtain⟨z,Y,n,L,c⟩:=mZ I.hok e;refine wpAny_notIn_of (oA f) Y c.mapOf ?_;rw[<-(L.val k).isSome_eq,<-l];exact h _ (I.tok _)
 .subst Z;cases(f);obtain⟨z,Y,m,L,c⟩:=oa I.hok e;refine wpAny_notIn_heap (ĵ i) (oS I.hok j) Y c ?_;have q:=(L.val k).isSome_eq;rw[Qcm]at q;rw[<-q,<-l];exact h _ (I.tok _)
theorem Gg(I:Inv X pz σ H s)(Y:qN (H a))(hs:Zq a s.heap h')(Z:∃q,h'.get? a=some q)(U:df X.prog X.w (aO H a L) h' a L):Inv X pz σ (aO H a L) { s with heap:=h',toks:=t' }:=I.write Y (.inl rfl) (fun b q c z=>(hs.2 b c).trans z) Z U
theorem Le(z:U.length<=sizeLine)(Y:(a==î)=false)(L:KV U vs)(Z:h'.DictOf (gG P w) a vs):df P w b h' a (.dK U):=⟨z,Y,vs,L,Z⟩
theorem Q8(K:A.units+1<Z9)(I:Inv X pz σ H s)(g:jP H a y v C)(p:av y u)(t:av v r)(h:∀o,Inv X pz σ C o->Q () o):p_ (u_ X.prog X.w) A (setItem (.ref a) u r) Q E s:=by
 rcases g with⟨Y,k,e,j,l,m⟩|⟨Y,k,b,e,j,B,l,m⟩
 .subst j m;obtain⟨z,i,G,L,n⟩:=Vf I.hok e;have J:G.length<=sizeLine:=by rw[<-L.length];exact z
  have f:(dC Y k v).length<=sizeLine:=by have:=JV Y k v;omega
  refine wpAny_setItem_pairs (oA p) n fun x U d=>h _ ?_;have M:∃q,x.get? a=some q:=let⟨q,_,_,Z,_⟩:=U;⟨q,Z⟩;exact Gg I (by rw[e];exact True.intro) d M (Le f i (L.put k t) U)
 .subst j m;cases(p);obtain⟨z,i,F,L,n⟩:=Vh I.hok e;have J:F.length<=sizeLine:=by rw[<-Paired.length L];exact z
  have f:(dC Y k v).length<=sizeLine:=by have:=JV Y k v;omega
  refine wpAny_setItem_heap (ĵ K) (oS I.hok B) n fun x U d=>h _ ?_;obtain⟨q,S,T,Z,R,P,O,_,N⟩:=U;refine Gg I (by rw[e];exact True.intro) d ⟨q,Z⟩ ⟨f,i,_,(L.put k B t).keeps fun c ys W=>?_,q,S,T,Z,R,P,O,N⟩;rw[bN (by grind)];exact W
end
section
variable{kvs:List (aU×V)}{k:aU}
theorem Ve(I:Inv X pz σ H s)(e:Rd H a (.dK kvs))(h:∀t U,Inv X pz σ H U->Q (.int kvs.length t) U):p_ (u_ X.prog X.w) A (call (.builtin "len") [.ref a]) Q E s:=by obtain⟨z,Y,b,L,Z⟩:=mZ I.hok e;refine call_len_dict Y Z (by rw[<-L.length];rw[O_]at z;omega) ?_;rw[<-L.length];exact h _ _ (I.tok _)
end
theorem T4(I:Inv X pz σ H s)(g:iR H a y o):s.TypeIs (.ref a) "dict" := by
 rcases g with⟨L,k,e,_,_⟩|⟨L,k,b,e,_,_,_⟩
 .obtain⟨_,_,vs,_,dd⟩:=mZ I.hok e;exact dd.typeIs
 .obtain⟨_,_,xs,_,dd⟩:=oa I.hok e;exact dd.typeIs
theorem PF(h:Heap)(L:î<h.objs.size):df P w H (h.push { cls:=.type "dict",data:=.dict #[] }) h.objs.size (.dK []):=⟨YQ _,beq_eq_false_iff_ne.mpr (ZM (z_ L)),[],.nil,Heap.DictOf.new h⟩
def M5:TE:=fun _ H Q=>∀p,H p=none->Q (.ref p) (aO H p (.dK []))
theorem QK:PE X (.Dict [] [] pos) M5:=fun U s L H Q I h=>wpAny_Dict_empty ⟨.ref s.heap.objs.size,_,I.laid (fun _ _ q=>a_ _ q) (q_ _) (PF s.heap I.big),rfl,h _ (I.hok.fresh (q_ _))⟩
end L2
namespace Att
open PySem PySem.W PySem.Calls PyProof.Rows
theorem U3:∀(L:List Int)(vs:List Value),WellAll P h vs (L.map WData.int)->æ vs L:=by
 intro L
 induction L with
|nil=>intro vs w;cases w;exact .nil
|cons n L U=>intro vs w;cases w with
 |cons a b=>cases a;exact .cons _ _ (U _ b)
theorem Su{l:OpenLaw}(s:l.most=some n)(L:l.row.toRowW.claim.pre args=true)(e:WellAll P h U args):∃a vs Z,U=[Value.ref a]/\args=[WData.list (Z.map WData.int)]/\h.get? a=some { cls:=.type "list",data:=.seq vs.toArray }/\æ vs Z/\Z.length<=n:=by
 have Y:=(pre_splitW L).1;have k:l.pre.holds [] { args:=args }=true:=(pre_splitW L).2;obtain⟨d,r,rfl,p,o⟩:=hasAllW_cons Y;obtain rfl:=hasAllW_nil o;obtain⟨q,rfl,m⟩:=hasW_list p;obtain⟨Z,rfl⟩:=items_int m;have b:Z.length<=n:=by
  have f:(WTm.not (.lt (.lit (.int (n))) (.len (.arg 0)))).holds [] { args:=[.list (Z.map .int)] }=true:=by have f:=(holds_andW k).1;simp_all
  have t:=condW_of f (w_not (w_lt w_lit (w_len_list (w_arg rfl))));simp_all
 cases e with
|cons i g=>cases g;cases i with
 |list j c=>exact⟨_,_,Z,rfl,rfl,j,U3 Z _ c,b⟩
theorem RQ(l:OpenLaw)(L:List WData):l.row.toRowW.claim.post L (.bool true) L=true:=
 postW_of
  (by first|rfl|decide|grind)
  (w_eq_bool (w_res rfl) w_lit) rfl
theorem attach_call{l:OpenLaw}{d:DefRec}(E:l.most=some n)(Q:d.params.defaults=[])(i:∀(w:S_)(c b:c_)(m t:Str->Option Value)(h:Addr)(o:Obj)(s p e:Value)(a:Addr)(vs:List Value)(k:List Int),Ground q L [] A w c m t b.heap->z w b.heap ->b.heap.get? h=some o->o.data=.func (docDef d.name d.params d.body d.scope s p e)->b.heap.CodeRec p d.name->m d.name=some (.ref h) ->b.heap.get? a=some { cls:=.type "list",data:=.seq vs.toArray }->æ vs k->k.length<=n->b.gens = #[] ->Z1 (u_ l.prog w) Á (.call (.ref h) ⟨[.ref a],[]⟩) (fun r j=>r=.ok (.ret (.bool true))/\OldK b.heap j.heap/\j.os=b.os/\ô j.gens) b):WalkO q L A z l.row.toRowW d [] (fun f vs=>Qe7 f vs):=by intro w c b m t G Y h o s p e N kV C I P x v H y W R Z X T u S;obtain rfl:N=.none:=Dflts.none x Q;obtain rfl:kV=.none:=Dflts.noKw x;obtain⟨a,vs,k,rfl,rfl,O,U,g⟩:=Su E Z u;refine enter_call (û (i w c b m t h o s p e a vs k G Y C (fd_plain I) P v O U g H) fun r j B=>?_);obtain⟨rfl,M,K,J⟩:=B;exact⟨.inl ⟨_,_,[],rfl,fun _=>rfl,.bool true,RQ l _,fun _=>⟨List.Pairwise.nil,fun _ F=>(nomatch F)⟩⟩,M,K,J⟩
end Att
namespace L2
open PySem PySem.Spec PyProof.Rows
theorem zW:∀{vs:List Value}{L:List Int},æ vs L->ar (L.map V.int) vs
|_,_,.nil=>.nil
|_,_,.cons n t h=>.cons ⟨t,rfl⟩ (zW h)
def mP(H:Hp):Prop:=∀b,H b=none\/∃o xs,H b=some (.frz o (.lst xs))
theorem PU{K:W.Frag}{E a:Addr}{O:ZB}{x:Str}{I:Sp}{c:c_}{vs:List Value}{p:List Int}(R:K.In c.heap)(Q:c.heap.Ns Y9 i)(g:c.heap.Ns ż A)(IO:∀x:Str,x≠"__name__"->A x=Ï x)(Cl:c.heap.NoLimit)(hg:c.gens = #[])(C:c.heap.get? a=some { cls:=.type "list",data:=.seq vs.toArray })(M:æ vs p)(hl:p.length<=sizeLine)(hr:Room k Á)(F:∀base:Heap,K.In base->base.Ns Y9 i->FnOk P w K i base S k E O [x] I)(Z:∀(s:c_)(u:Value),ą s O ⟨[u],[]⟩ [(x,u)])(KK:∀H:Hp,mP H->bp K H a (p.map V.int)->I [.ref a] H (fun v _=>v=.bl true) fun _ _ _=>False)(LT:∀H e f,S [] H c (fun _ _ _=>False) e f->False):Z1 (u_ P w) Á (.call (.ref E) ⟨[.ref a],[]⟩) (fun r f=>r=.ok (.ret (.bool true))/\OldK c.heap f.heap/\f.os=c.os/\ô f.gens) c:=by
 have J:=zW M;have ST:=M.length;have Y:∀H:Hp,mP H->bp K H a (p.map V.int)->cS P w H c.heap->(∀b,H b≠none->b=a)->(H a≠none->K.lookup a=none) ->Z1 (u_ P w) Á (.call (.ref E) ⟨[.ref a],[]⟩) (fun r f=>r=.ok (.ret (.bool true))/\OldK c.heap f.heap/\f.os=c.os/\ô f.gens) c:=by
  intro H N hS j hA hK;have L:∀{b:Addr}{o:Obj},c.heap.get? b=some o->H b=none->(iJ c.heap H).get? b=some o:=fun e n=>PM e n;have LE:∀{b:Addr}{o:Obj}{t:Array Ł}{y:Nat},c.heap.get? b=some o->o.data=.dict t y->H b=none:=fun{b o t y} e d=>by grind
  have U:∀{b:Addr}{m:Str->Option Value},c.heap.Ns b m->(iJ c.heap H).Ns b m:=fun{b m} k=>by obtain⟨o,t,y,e,d,r⟩:=k;exact ⟨o,t,y,L e (LE e d),d,r⟩
  have T:=fun b o e=>L (R b o e) (by grind);have hM:Mod K i _:=⟨T,U Q,⟨A,U g,IO⟩,let⟨mc,h1,h2⟩:=Cl;⟨mc,U h1,h2⟩⟩
  have e0:Env0 P w K i _ Á [] c H:=⟨rfl,hM,fun b o e=>OW e,Ĉ (Re _ _),trivial,fun b g=>Q_g (show b∈([])from g) (by simp),j,.of_eq hg⟩
  refine û ((F _ T (U Q)).run Á [] c H _ [.ref a] [.ref a] _ _ hr e0 (Z c (.ref a)) (.cons rfl .nil) (KK H N hS)) fun r f h=>?_;cases r with
 |error e=>exact(LT H e f h).elim
 |ok fl=>cases fl with
  |next=>exact ZU h
  |brk=>exact ZU h
  |cont=>exact ZU h
  |ret u=>obtain⟨v,H',os,l,G,Id,X,q⟩:=h;have q':=q;subst q';obtain rfl:u=Value.bool true:=X;refine⟨rfl,OldK.of_keep fun b o e=>?_,os,l⟩;cases q:H b with
   |none=>exact G.keep b o e q (by intro z;exact Q_g (show b∈([])from z) (by simp)) (by simp)
   |some u=>
     rcases N b with z|⟨ob,xs,z⟩
     .rw[q]at z;cases z
     .have z2:=G.frzs b ob _ z;obtain⟨e1,_⟩:=j b _ z;obtain⟨e2,_⟩:=Id b _ z2;simp_all
 cases B:K.lookup a with
|some o=>have e:=R a o B;rw[C]at e;cases e;refine Y _ (fun _=>.inl rfl) (.inr ⟨_,vs.toArray,_,B,rfl,rfl,rfl,by simp_all,by simpa using J⟩) (fun b u z=>by simp_all) (by simp_all) fun z=>Q_g rfl z
|none=>
  refine Y (fun b=>if b=a then some _ else none) (fun b=>?_) (.inl (.inr ⟨{ cls:=.type "list",data:=.seq vs.toArray },Q_e rfl⟩)) (fun b u z=>?_) (fun b z=>?_) fun _=>B
  .grind
  .by_cases g:b=a
   .have z':=(Q_e g).symm.trans z;cases z';subst g;exact⟨C,by grind,vs,_,J,C⟩
   simp_all
  simp_all
abbrev bm{K:W.Frag}{h:Heap}(_:K.In h):W.Frag:=K
theorem kr{l:W.OpenLaw}{d:DefRec}{K:Params->W.Frag}{E:S_->jf}{A:S_->Sp}{x:Str}(J:l.most=some n)(BT:n<=sizeLine)(X:d.params.defaults=[])(I:Room k Á)(O:∀(w:S_)(h:Heap),B w h->(K w.params).In h)(F:∀(w:S_)(i:Str->Option Value)(p:Addr)(h:Heap),(K w.params).In h->h.Ns Y9 i->i d.name=some (.ref p) ->∃y:ZB,(∀(s:c_)(u:Value),ą s y ⟨[u],[]⟩ [(x,u)]) /\∀base:Heap,(K w.params).In base->base.Ns Y9 i->FnOk l.prog w (K w.params) i base (E w) k p y [x] (A w))(Cl:∀(w:S_)(H:Hp)(a:Addr)(m:List Int),m.length<=n->mP H->bp (K w.params) H a (m.map V.int)->A w [.ref a] H (fun v _=>v=.bl true) fun _ _ _=>False)(Id:∀(w:S_)(H:Hp)(s:c_)(e:Value)(r:c_),E w [] H s (fun _ _ _=>False) e r->False):W.WalkO q U XP B l.row.toRowW d [] (fun f vs=>Qe7 f vs):=by refine Att.attach_call J X fun w z j i mb p o pm cd S a vs m G Y ho hd IO t Z L c M=>?_;have C:=O w _ Y;obtain⟨y,N,R⟩:=F w i p _ C G.T.g t;exact PU C G.T.g G.T.b G.T.builtins G.T.nolimit M Z L (Y1 c BT) I R N (fun H Q P=>Cl w H a m c Q P) fun H e r=>Id w H j e r
def aX(s:Stmt):Arguments:=match s with
|.FunctionDef _ a _ _ _ _ _ _ _ _=>a
|_=>{ posonlyargs:=[],args:=[],vararg:=none,kwonlyargs:=[],kw_defaults:=[],kwarg:=none,defaults:=[] }
def aC(s:Stmt):List Stmt:=match s with
|.FunctionDef _ _ b _ _ _ _ _ _ _=>b
|_=>[]
def ab(s:Stmt):à:=match s with
|.FunctionDef _ _ _ _ _ _ sc _ _ _=>sc
|_=>{ kind:=.function,names:=[],isGenerator:=false,isCoroutine:=false }
abbrev fG:jf:=fun _ _ _ _ _ _=>False
abbrev E0:XK:=fun _ _ _=>False
theorem rG:oH fG X E0:=fun _ _ _ _ _ _ _ h=>h.elim
structure Fun(K:W.Frag)(x qual:Str)(st:Stmt)(f:Addr)(fd:ZB):Prop where
 ex:∃(oc:Value)(od:Option Addr)(kV doc pm:Value)(an:Option Addr)(cdv ct:Value)(osl:Array (Option Value)),fd=W.fnOf x qual (aX st) (aC st) (ab st) .none kV doc pm an cdv ct/\K.lookup f=some ⟨oc,od,.func fd,osl⟩/\W.codeIn K cdv qual=true
 kp:W.keepIn K (.ref f)=true
section
variable{P:C_}{w:S_}{K:W.Frag}{mg:Str->Option Value}{base:Heap}
theorem Fun.ok{st:Stmt}{c:Sp}(F:Fun K x a st f e)(S:FnScope N ps (ab st))(d:∀vs H Q E,c vs H Q E->vs.length=ps.length)(L:∀(b:Value)(A:T_)(Z:List Env)(s:c_)(H:Hp)(vs:List V)(Q:VK)(E:XK),Room k (A.deeper (ä a (ab st) s.heap.objs.size f b))->c vs H Q E ->∃t,dI (dF fG P w K mg base N a (ab st) f b A Z s H E).nox (aC st) t/\t { nx:=fun _ m=>Q .non m,rt:=Q } (bB N vs) H):FnOk P w K mg base fG (k+1) f e ps c:=by obtain⟨p,o,kV,l,n,u,b,r,g,rfl,i,U⟩:=F.ex;refine Vk i U S d fun A Z s H vs Q E j Y=>?_;obtain⟨t,h,q⟩:=L b A Z s H vs Q E j Y;exact⟨t,h.nox,q⟩
theorem Fun.binds{st:Stmt}(F:Fun K x U st f e)(h:∀(kV Y b:Value)(d:Option Addr)(Z c:Value)(a:List Value),a.length=ps.length->Ó (W.fnOf x U (aX st) (aC st) (ab st) .none kV Y b d Z c) ⟨a,[]⟩=pure (ps.zip a)):jg K e ps []:=by obtain⟨j,i,kV,Y,b,d,Z,c,g,rfl,k,L⟩:=F.ex;exact .all (h kV Y b d Z c)
theorem cY{st:Stmt}{kV Y a U b:Value}(l:K.lookup f=some ⟨g,e,.func (W.fnOf x L (aX st) (aC st) (ab st) .none kV Y a d U b),Z⟩)(c:W.codeIn K U L=true)(k:W.keepIn K (.ref f)=true):Fun K x L st f (W.fnOf x L (aX st) (aC st) (ab st) .none kV Y a d U b):=⟨⟨g,e,kV,Y,a,d,U,b,Z,rfl,l,c⟩,k⟩
end
theorem om(L:Room k A):A.units+1<Z9:=Zt (by simp_all) L.units
section
variable{X:Cx}
theorem Rq:dJ X (.builtin "len") (fun xs H Q=>∃a L,xs=[V.ref a]/\Rd H a (.dK L)/\Q (.int L.length) H):=by intro e s b H xs c Q I r h;obtain⟨a,L,rfl,Y,q⟩:=h;obtain⟨u,rfl,U⟩:=bA r;cases U;exact Ve I Y fun t d Z=>⟨.int L.length,H,Z,⟨t,rfl⟩,q⟩
end
end L2
end
namespace DL
open PySem
section
open PySem.SeqAt
open PySem.AutoSeq1 (wpAny_loadPart')
open PySem.MeetsSeq PySem.MeetsSeq2 PySem.MeetsSeq3
def wZ(items:Array Value)(x:Value):Nat->Option Fin×Unit->Sem (ForInStep (Option Fin×Unit)):=fun i _=>match items[i]? with
|some y=>do
  let c <-eqBool y x
  if c=true then do
    let r <-retInt i
    pure (ForInStep.done (some r,()))
   else pure (ForInStep.yield (none,()))
|_=>pure (ForInStep.yield (none,()))
theorem NU{x:Value}{e:Value->Bool}{j:Nat}(b:j<U.size)(Z:e U[j]=true)(c:∀y,y∈U->EqAt A s y x (e y)){Q:Option Fin×Unit->c_->Prop}(hq:Q (some (.done (.ret (.int j s.toks))),()) { s with toks:=s.toks+1 }):∀(k i:Nat),j=i+k->(∀m (g:m<U.size),i<=m->m<j->e U[m]=false)->p_ (u_ prog w) A (forIn (Ý i (U.size-i)) (none,()) (wZ U x)) Q E s:=by
 intro k
 induction k with
|zero=>
  intro i f _;obtain rfl:j=i:=by omega
  obtain⟨r,Y⟩:∃r,U.size-j=r+1:=⟨U.size-j-1,by omega⟩
  rw[Y,Ę,ZW];refine Q_a ?_;unfold wZ;rw[show U[j]? = some U[j]by simp[b]];refine Q_a (c _ (Qeo b) prog w _ _ ?_);rw[Z,Q_e rfl];unfold retInt
  wp_walk
  exact hq
|succ k d=>
  intro i f L;have a:i<U.size:=by omega
  obtain⟨r,Y⟩:∃r,U.size-i=r+1:=⟨U.size-i-1,by omega⟩
  rw[Y,Ę,ZW];refine Q_a ?_;unfold wZ;rw[show U[i]? = some U[i]by simp[a]];refine Q_a (c _ (Qeo a) prog w _ _ ?_);rw[L i a (q_ _) (by omega),Q_f y_];refine e_ ?_;have:=d (i+1) (by omega) (by grind);rw[show U.size-(i+1)=r by omega]at this;exact this
theorem Ux(l:Addr)(U:Array Value)(n:Nat)(p:Option Addr)(b:Array (Option Value))(x:Value)(e:Value->Bool)(j:Nat)(f:j<U.size)(Y:e U[j]=true)(L:∀m (a:m<U.size),m<j->e U[m]=false) :
  ë (Zf.«tuple.index» ⟨[.ref l,x],[]⟩)
   (fun A R s=>s.heap.get? l=some { cls:=.type "tuple",dict:=p,data:=.seq U n,slots:=b }/\(∀y,y∈U->EqAt A.in1 s y x (e y))/\R (.ok (.ret (.int j s.toks))) { s with toks:=s.toks+1 }):=by
 intro Z w A R s h;obtain⟨t,g,d,q,r⟩:=s;obtain⟨c,i,h⟩:=h;unfold Zf.«tuple.index»;simp only[Qdt];generalize k : @forIn Sem (List Nat) Nat _ (Option Fin×Unit)=F
 wp_walk using Q_b c
 subst k;rw[show([:min U.size U.size]:Std.Legacy.Range).size=U.size-0 by simp[Std.Legacy.Range.size]];refine NU f Y i ?_ j 0 (by omega) (fun m a _ o=>L m a o);exact e_ h
end
end DL
namespace DL
open PySem PyProof.Rows
theorem Tx:ł (.type "tuple") (.type "set")=pure false:=by rw[Ë];kernel_rfl
theorem UH:ł (.type "tuple") (.type "frozenset")=pure false:=by rw[Ë];kernel_rfl
section
variable{prog:C_}{w:S_}{A:T_}{E:Value->c_->Prop}{s:c_}
abbrev eT(led:Bool):Obj:={ cls:=.type "set",dict:=none,data:=.set #[] 0 (.fresh 0 0 led) }
def wK(prog:C_)(w:S_)(s:c_)(ns:List Int)(n:Nat)(h':Heap):Prop:=h'.SetOf (ă prog w) s.heap.objs.size (fun k=>(ď (fun i=>ns.getD i 0) n).any (· == k)) (ď (fun i=>ns.getD i 0) n).length/\∀b o,b<s.heap.objs.size->s.heap.get? b=some o->h'.get? b=some o
set_option maxHeartbeats 3200000 in
theorem Ur(I:A.handled=none)(G:s.heap.IsTuple t L)(H:æ L.toList m)(J:L.size+1<é)(M:∀h' q,wK prog w s m L.size h'->R (.ok (.ret .none)) { s with heap:=h',toks:=q }):p_ (u_ prog w) A.in1 (Zf.«set.__init__» ⟨[.ref s.heap.objs.size,.ref t],[]⟩) (fun fin U=>match fin with|.done f=>R (.ok f) U|.again C=>C.quiet=true/\Z1 (u_ prog w) A C R U) (fun e U=>R (.error e) U) { s with heap:=s.heap.push (eT led) }:=by
 obtain⟨⟨B,r,u,l⟩,d,h,E,g⟩:=G;simp only at h g;subst h;subst g;have c:=a_ (eT led) d;have P:=Tx;have O:=UH;have N:(Value.type "tuple" == Value.type "dict")=false:=by decide
 have k:(s.heap.push (eT led)).IsTuple t L:=⟨_,c,rfl,E,rfl⟩
 have K:(s.heap.push (eT led)).get? s.heap.objs.size=some (eT led):=i_ _ rfl;unfold Zf.«set.__init__» noKeywords QbO;generalize z:ö=PI
 wp_walk
 subst z;refine ZK k (Q_a (Ķ ?_));have Y:t<s.heap.objs.size:=o_ d;have p:(s.heap.push (eT led)).objs.size=s.heap.objs.size+1:=H_ ..;have x:t≠(s.heap.push (eT led)).objs.size:=by rw[p];exact z_ (Y2 Y)
 have a:s.heap.objs.size∉[(s.heap.push (eT led)).objs.size,t]:=by rw[p];simp only[s_,L_,Q_m,not_or];exact⟨z_ (Zi _),YS Y⟩
 have Z:∀(i:Nat)(v:Value),L[i]? = some v->∃q,v=.int ((fun i=>m.getD i 0) i) q:=fun i v F=>IntsAre.int_at H i v (by rw[N_];exact F);refine codeAny_set_update_loopS ((QfJ (A:=A.in1.in1) I _ t x L).toS) s.heap.objs.size a (fun i=>m.getD i 0) Z J (L.size-0) 0 _ (by omega) (YQ _) ⟨⟨_,i_ _ rfl,rfl,rfl⟩,k.push _⟩ ?_ fun U n y=>?_
 .exact SetOf_congr ((setObjOf_fresh (knd:=ă prog w) led).setOf (a_ _ K) (by unfold é;omega)) (fun _=>rfl) rfl
 .obtain⟨h',g',d',tk',os'⟩:=U;obtain rfl:g'=s.gens:=n.gens;obtain rfl:d'=s.drawn:=n.drawn;obtain rfl:os'=s.os:=n.os;show p_ _ _ _ _ _ _;refine e_ ?_;show p_ _ _ (ret Value.none) _ _ _;refine e_ (M h' tk' ⟨y,fun b o j e=>?_⟩);refine n.heap b o ?_ (a_ _ (a_ _ e));rw[p];simp only[s_,L_,Q_m,not_or];exact⟨z_ j,z_ (Y2 j)⟩
set_option maxHeartbeats 3200000 in
theorem Um(n:A.handled=none)(l:s.heap.IsTuple t L)(m:æ L.toList g)(o:L.size+1<é)(h:∀h' b,wK prog w s g L.size h'->Q (.ref s.heap.objs.size) { s with heap:=h',toks:=b }):p_ (u_ prog w) A (call (.type "set") [.ref t]) Q E s:=by
 obtain⟨c,tl,k⟩:=F.called_set.mro;have G:=F.called_set.made;have C:=F.called_set.sub;refine Ľ (Ų ?_);show p_ _ _ (callAny (.type "set") _) _ _ _;refine e_ ⟨Qb2 _ (by decide+kernel),Y5 F.entry_type_call ?_⟩;rw[Qd6 (Qdj "set" [.ref t] []) rfl];have B:=F.called_set.notType;have z:=F.called_set.canCreate;have y:=F.typeCall_set_1 (.ref t)
 repeat (any_goals (first|assumption|wp_step))
 refine û (code_set_new_1 (.ref t) (E:=E) (Q₁:=fun f Z=>∃led:Bool,f=.ref s.heap.objs.size/\Z={ s with heap:=s.heap.push (eT led) }) fun led=>⟨led,rfl,rfl⟩) fun r Z i=>?_;cases r with
|error e=>exact i
|ok u=>cases u with
 |ret f=>
   obtain⟨led,rfl,rfl⟩:=i;have p:Qfw { s with heap:=s.heap.push (eT led) } (.ref s.heap.objs.size) "set" := ⟨_,i_ _ rfl,rfl⟩
   have x:=F.called_set.init.lookup;have v:=F.called_set.init.bind (.ref s.heap.objs.size)
   repeat (any_goals (first|assumption|wp_step))
   refine û (Qdv (R:=wants (fun r Y=>r=.none/\∃h' b,Y={ s with heap:=h',toks:=b }/\wK prog w s g L.size h') E) F.called_set.init.plain F.entry_set_init (check_set_init_1 p ?_)) fun d Y U=>?_
   .refine Ur (A:=A.in1) (led:=led) n l m o fun q b j=>?_;exact⟨rfl,q,b,rfl,j⟩
   .cases d with
   |error e=>exact U
   |ok a=>cases a with
    |ret r=>
      obtain⟨rfl,h',b,rfl,j⟩:=U
      repeat (any_goals (first|assumption|wp_step))
      exact h _ _ j
    |_=>exact U.elim
 |_=>exact i.elim
end
end DL
namespace DL
open PySem PyProof.Rows PySem.W
def oR{α:Type}(c:Nat->Nat->Bool):KasT α->α
|.ret a=>a
|.ask i j k=>oR c (k (c i j))
inductive Asks(n:Nat){α:Type}(P:α->Prop):KasT α->Prop where
 |ret {a:α}:P a->Asks n P (.ret a)
 |ask {i j:Nat} {k:Bool->KasT α}:i<n->j<n->(∀b,Asks n P (k b))->Asks n P (.ask i j k)
theorem Asks.bind{f:L->KasT U}(h:Asks n P t)(b:∀a,P a->Asks n Y (f a)):Asks n Y (t.bind f):=by induction h with
|ret h=>exact b _ h
|ask d c _ Z=>exact .ask d c Z
theorem Asks.run{t:KasT L}(h:Asks n P t)(c:Nat->Nat->Bool):P (oR c t):=by induction h with
|ret h=>exact h
|ask _ _ _ U=>exact U _
theorem RS(Z:∀i j C,i<n->j<n->C (c i j) s->L i j C s){Q:U->c_->Prop}{t:KasT U}(h:Asks n P t):Q (oR c t) s->t.kasWp L Q s:=by induction h with
|ret _=>exact fun q=>q
|ask b a _ Y=>exact fun q=>Z _ _ _ b a (Y _ q)
def eJ(n:Nat)(p:Array Nat):Prop:=p.toList.Perm (d_ n)
theorem eJ.bd(h:eJ n p)(U:0<n)(k:Nat):p.getD k 0<n:=by
 by_cases L:k<p.size
 .have e:p.getD k 0=p[k]:=by simp[Array.getD,L]
  rw[e];exact n_.mp (h.mem_iff.mp (by simp))
 simp_all
theorem eJ.rev(h:eJ n p)(i j:Nat):eJ n (kas_rev p i j):=(Qb3.mp (mirror_perm p i j _)).trans h
theorem eJ.bub(h:eJ n p)(i j:Nat):eJ n (bubble p i j):=(Qb3.mp (bubble_perm p i j)).trans h
section
variable{n:Nat}(hn:0<n)
include hn
theorem zA(h:eJ n p):∀f k,Asks n (fun _=>True) (kas_asc p f k)
|0,k=>.ret trivial
|f+1,k=>.ask (h.bd hn _) (h.bd hn _) fun b=>by cases b with
 |true=>exact .ret trivial
 |false=>exact zA h f _
theorem tx:∀f (p:Array Nat) k q,eJ n p->Asks n (fun r=>eJ n r.1) (kas_desc f p k q)
|0,p,k,q,h=>.ret h
|f+1,p,k,q,h=>.ask (h.bd hn _) (h.bd hn _) fun b=>by cases b with
 |true=>
   rw[Q_e rfl];split
   .exact tx f _ _ _ (h.rev _ _)
   .exact tx f _ _ _ h
 |false=>refine .ask (h.bd hn _) (h.bd hn _) fun b=>?_;cases b with
  |true=>exact .ret h
  |false=>exact tx f _ _ _ h
theorem IT(h:eJ n p)(a b:Nat):Asks n (fun r=>eJ n r.2) (kas_tail3 a b p):=Asks.bind (zA hn (h.rev 0 a) _ _) fun m _=>.ret (h.rev 0 a)
theorem JO(h:eJ n p)(a b:Nat):Asks n (fun r=>eJ n r.2) (kas_descPart a b p):=by
 refine Asks.bind (tx hn _ p _ _ h) fun r L=>?_;split
 .exact IT hn (L.rev _ _) _ _
 .exact IT hn L _ _
theorem Tq(h:eJ n p)(a:Nat):Asks n (fun r=>eJ n r.2) (kas_count a p):=by
 refine Asks.bind (zA hn h _ _) fun k _=>?_;split
 .exact .ret h
 .split
  .refine .ask (h.bd hn _) (h.bd hn _) fun b=>?_;cases b with
  |true=>exact .ret h
  |false=>exact JO hn (h.rev _ _) _ _
  .exact JO hn h _ _
theorem Am(h:eJ n p)(k:Nat):∀f l r,Asks n (fun _=>True) (kas_place p k f l r)
|0,l,r=>.ret trivial
|f+1,l,r=>by
  unfold kas_place;split
  .exact .ret trivial
  .refine .ask (h.bd hn _) (h.bd hn _) fun b=>?_;cases b with
  |true=>exact Am h k f _ _
  |false=>exact Am h k f _ _
theorem Hu:∀f (p:Array Nat) k,eJ n p->Asks n (eJ n) (kas_bin f p k)
|0,p,k,h=>.ret h
|f+1,p,k,h=>Asks.bind (Am hn h k _ _ _) fun l _=>Hu f _ _ (h.bub _ _)
theorem Iw:Asks n (eJ n) (kas_sort n):=by
 refine Asks.bind (Tq hn (by unfold eJ;simp) n) fun r L=>?_;split
 .exact Hu hn _ _ _ L
 .exact .ret L
end
def kd(n:Nat)(c:Nat->Nat->Bool):List Nat:=if n<2 then d_ n else(oR c (kas_sort n)).toList
theorem JI(n:Nat)(c:Nat->Nat->Bool):(kd n c).Perm (d_ n):=by
 unfold kd;split
 .exact .refl _
 .exact(Iw (by omega)).run c
end DL
namespace DL
open PySem PyProof.Rows PySem.W PySem.Calls
section
variable{prog:C_}{w:S_}{A:T_}{E:Value->c_->Prop}{s:c_}
theorem SM{vs:List Value}(j:s.heap.get? a=some (ê "list" vs.toArray n))(p:vs.length<2)(h:∀h' c,(∀b o,b≠a->s.heap.get? b=some o->h'.get? b=some o)->h'.get? a=some (ê "list" vs.toArray c)->P (.done (.ret .none)) { s with heap:=h' }):p_ (u_ prog w) A (Zf.«list.sort» ⟨[.ref a],[]⟩) P E s:=by
 have d:vs.length<=sizeLine:=by rw[O_];omega
 have k:=fun(h:Heap)(f:Array Value->Array Value)=>ZZ h a (Y6 f);obtain⟨m,Y⟩:∃m,(s.heap.update a (Y6 fun _=>(#[]:Array Value))).get? a=some (ê "list" #[] m):=⟨_,Qdc j fun _=>#[]⟩
 rw[list_sort_plain];refine Q_a (Qep j rfl (Q_a (ŏ j rfl ?_ (by rw[A_];exact d) (YQ _))));refine Q_a (seqEpoch_at Y rfl (Q_a (ķ (Q_a (Ĺ (YH ?_) (YQ _))) (by show vs.length<=_;exact d))))
 dsimp only
 have i:vs.toArray.size<2:=by rw[A_];exact p
 rw[Q_e i,Q_e i];refine Q_a (e_ ?_);have Z:(pure ():StateT SortSt Sem Unit).run (Qe8 general' (vs.toArray.zip vs.toArray) #[] 7 none)=pure ((),Qe8 general' (vs.toArray.zip vs.toArray) #[] 7 none):=rfl;rw[Z];refine Q_a (e_ ?_)
 dsimp only
 have g:(arrOf (Qe8 general' (vs.toArray.zip vs.toArray) #[] 7 none)).map (·.2)=vs.toArray:=by show((vs.toArray.zip vs.toArray).map (·.2))=vs.toArray;apply Array.ext';simp[QeJ]
 rw[g];have L:∀b o,(s.heap.update a (Y6 fun _=>(#[]:Array Value))).get? b=some o->(((s.heap.update a (Y6 fun _=>(#[]:Array Value))).push (ê "tuple" vs.toArray 0)).push (ê "list" #[] 0)).get? b=some o:=fun b o e=>a_ _ (a_ _ e);have U:=L _ _ Y;refine Q_a (seqEpoch_at U rfl (Q_a (ŏ U rfl ?_ (YQ _) (by rw[A_];exact Nat.le_succ_of_le d))));simp only[bne_self_eq_false,YE,Q_n];refine e_ (h _ _ (fun b o l e=>?_) (Qdc U fun _=>vs.toArray));exact((k _ _).2 b l).trans (L b o (((k _ _).2 b l).trans e))
theorem UG{vs:List Value}(g:s.heap.IsList l vs.toArray)(j:vs.length<2)(h:∀h' c D,(∀b o,s.heap.get? b=some o->h'.get? b=some o)->s.heap.objs.size<=D->h'.get? D=some (ê "list" vs.toArray c)->Q (.ref D) { s with heap:=h' }):p_ (u_ prog w) A (call (.builtin "sorted") [.ref l]) Q E s:=by
 refine Qci kind_sorted plain_sorted entry_sorted (args_sorted1 _) ?_;refine Q_a (e_ (Q_a (collect_list g ?_ (by rw[O_];omega))));refine Q_a (Ĺ ?_ (by rw[O_];omega));generalize d:((s.heap.push _).update s.heap.objs.size _)=Y;have Z:Y.objs.size=s.heap.objs.size+1:=by rw[<-d,Heap.size_update,size_push']
 have U:∀b o,s.heap.get? b=some o->(Y.push (ê "list" vs.toArray 0)).get? b=some o:=fun b o q=>by have a:=o_ q;refine a_ _ ?_;rw[<-d,Heap.get?_update_ne _ _ _ _ (z_ a)];exact a_ _ q
 have L:(Y.push _).get? Y.objs.size=some (ê "list" vs.toArray 0):=i_ _ rfl;refine Q_a (YH (Y0 slot_list_sort ⟨_,L,rfl⟩ entry_list_sort ?_ (args_list_sort _)));refine SM L j fun h' c f i=>?_;refine⟨_,rfl,e_ ⟨_,rfl,h h' c _ (fun b o e=>f b o ?_ (U b o e)) (by simp_all) i⟩⟩;rw[Z];exact z_ (Y2 (o_ e))
end
end DL
namespace DL
open PySem PySem.Spec PyProof.Rows L2 PySem.W PySem.Calls
def VG(h B:Heap)(a:Addr)(cls:Value)(od L:Option Addr):Prop:=∃oe vs,h.get? a=some oe/\oe.cls=cls/\(∀dx,od=some dx->oe.dict=some dx)/\oe.data=.fields vs /\(vs[1]? = some Value.none\/(∃T oT ts,vs[1]? = some (.ref T)/\B.get? T=none/\T≠a/\h.get? T=some oT/\oT.data=.fields ts/\ts[3]? = some Value.none) \/∃l T oT ts,L=some l/\vs[1]? = some (.ref T)/\B.get? T=none/\T≠a/\h.get? T=some oT/\oT.data=.fields ts/\ts[3]? = some (â ↑l))
def C6(st:List Env):Option Addr:=st.head?.bind (·.frame)
structure Fly(P:C_)(w:S_)(st:List Env)(H:Hp)(s:c_)(H':Hp)(a:Addr)(cls:Value)(od:Option Addr)(s':c_):Prop where
 os:s'.os=s.os
 bare:ô s'.gens
 un:Un (ij st) [] H H' s.heap s'.heap
 hok:cS P w H' s'.heap
 ex:∃B:Heap,B.StaysIn s'.heap/\B.get? a=none/\s'.heap.FunFrames B st/\VG s'.heap B a cls od (C6 st) /\(∀b o,s.heap.get? b=some o->b∉ij st->∃o',B.get? b=some o')/\∀b u,H' b=some u->∃o',B.get? b=some o'
end DL
namespace DL
open PySem PySem.Spec PyProof.Rows L2
inductive D where
 |non|bl (b:Bool)|int (i:Int)|str (x:Str)
 |tup (ds:List D)|lst (ds:List D)
 |dic (kvs:List (aU×D))
 |obj (c:Nat) (fs:List (Str×D))
instance:Inhabited D:=⟨.non⟩
inductive Res(α:Type) where
 |ok (a:α)|exc (x:D)|stuck
def Res.bind{α β:Type}(r:Res α)(f:α->Res β):Res β:=match r with
|.ok a=>f a
|.exc x=>.exc x
|.stuck=>.stuck
@[simp] theorem bind_ok(a:L)(f:L->Res U):(Res.ok a).bind f=f a:=rfl
def fin{α:Type}(r:Res α)(q:α->Prop)(x:D->Prop):Prop:=match r with
|.ok a=>q a
|.exc e=>x e
|.stuck=>False
theorem bu{q U:L->Prop}(h:fin r q x)(hq:∀a,q a->U a):fin r U x:=by cases r with
|ok a=>exact hq a h
|exc e=>exact h
|stuck=>exact h
theorem bv{f:U->Res L}(h:fin (r.bind f) q x):fin r (fun a=>fin (f a) q x) x:=by cases r with
|ok a=>exact h
|exc e=>exact h
|stuck=>exact h
abbrev GH:=Addr->Option D
inductive Scl:V->D->Prop where
 |non:Scl .non .non
 |bl (b:Bool):Scl (.bl b) (.bl b)
 |int (i:Int):Scl (.int i) (.int i)
 |str (x:Str):Scl (.str x) (.str x)
inductive KC(K:W.Frag)(a:Addr):D->Prop where
|lst {xs:List V} {ds:List D}:bp K (fun _=>none) a xs->Paired Scl xs ds->KC K a (.lst ds)
|tup {xs:List V} {ds:List D}:cg K (fun _=>none) a xs->Paired Scl xs ds->(∃o,K.lookup a=some o/\o.cls=.type "tuple"/\o.dict=none)->KC K a (.tup ds)
inductive RG(K:W.Frag)(G:GH):V->D->Prop where
 |scl {v:V} {d:D}:Scl v d->RG K G v d
 |ref {a:Addr} {d:D}:G a=some d->RG K G (.ref a) d
 |kc {a:Addr} {d:D}:KC K a d->RG K G (.ref a) d
abbrev bJ(K:W.Frag)(G:GH):List V->List D->Prop:=Paired (RG K G)
abbrev gl(K:W.Frag)(G:GH):List (aU×V)->List (aU×D)->Prop:=Paired fun p q=>p.1=q.1/\RG K G p.2 q.2
abbrev xD(nm:Str)(ds:List (Str×D)):D:=.obj 0 (("__class__",.str nm)::ds)
def XN(K:W.Frag)(nm:Str)(C:Addr):Prop:=∃o cd,K.lookup C=some o/\o.data=Data.cls cd/\cd.name=nm
def V5(a C:Addr)(od:Option Addr):Heap->Prop:=fun h=>∃oe vs,h.get? a=some oe/\oe.cls=.ref C/\(∀dx,od=some dx->oe.dict=some dx)/\oe.data=.fields vs
def XF(G:GH)(od:Option Addr)(ds:List (Str×D)):Prop:=match od with
|none=>ds=[]
|some dx=>G dx=some (.obj 1 ds)
theorem XF.mono(h:XF G L ds)(Y:∀a d,G a=some d->U a=some d):XF U L ds:=by cases L with
|none=>exact h
|some Z=>exact Y _ _ h
abbrev gB(K:W.Frag)(G:GH):List (Str×V)->List (Str×D)->Prop:=Paired fun p q=>p.1=q.1/\RG K G p.2 q.2
abbrev iD(nm:Str)(ds:List (Str×D)):D:=.obj 2 (("__class__",.str nm)::ds)
inductive OB(K:W.Frag)(G:GH)(H:Hp)(a:Addr):D->Prop where
 |lst {xs:List V} {ds:List D}:Rd H a (.lst xs)->bJ K G xs ds->OB K G H a (.lst ds)
 |tup {xs:List V} {ds:List D}:Rd H a (.tup xs)->bJ K G xs ds->OB K G H a (.tup ds)
 |dic {ob:Obj} {ps:List (aU×V)} {kvs:List (aU×D)}:H a=some (.frz ob (.dK ps))->gl K G ps kvs->OB K G H a (.dic kvs)
 |exc {nm:Str} {C:Addr} {od:Option Addr} {ds:List (Str×D)}:H a=some (.ext (V5 a C od))->XN K nm C->XF G od ds->OB K G H a (xD nm ds)
 |fld {fs:List (Str×V)} {ds:List (Str×D)}:H a=some (.xd fs)->gB K G fs ds->OB K G H a (.obj 1 ds)
 |ins {nm:Str} {C dx:Addr} {fs:List (Str×V)} {ds:List (Str×D)}:H a=some (.ins C dx fs)->XN K nm C->gB K G fs ds->OB K G H a (iD nm ds)
def bi(K:W.Frag)(G:GH)(H:Hp):Prop:=∀a d,G a=some d->OB K G H a d
inductive OwnO(K:W.Frag)(G:GH)(H:Hp)(a:Addr):D->Prop where
 |lst {xs:List V} {ds:List D}:H a=some (.lst xs)->bJ K G xs ds->OwnO K G H a (.lst ds)
 |dic {ps:List (aU×V)} {kvs:List (aU×D)}:H a=some (.dK ps)->gl K G ps kvs->OwnO K G H a (.dic kvs)
structure Own(K:W.Frag)(G:GH)(H:Hp)(a:Addr)(d:D):Prop where
 un:G a=none
 ob:OwnO K G H a d
structure Grow(K:W.Frag)(G:GH)(H:Hp)(G':GH)(H':Hp):Prop where
 ok:bi K G' H'
 he:∀a o,H a=some o->H' a=some o
 ge:∀a d,G a=some d->G' a=some d
 gf:∀a,H a≠none->G' a=G a
variable{K:W.Frag}{G G' G2:GH}{H H' H2:Hp}{d:D}{v:V}
section
variable{G1:GH}{H1:Hp}{a p:Addr}
theorem Rd.isS(h:Rd H a u):H a≠none:=by rcases h with h|⟨o,h⟩ <;> rw[h] <;> simp
theorem RG.mono(h:RG K G v d)(L:∀a d,G a=some d->G' a=some d):RG K G' v d:=by cases h with
|scl s=>exact .scl s
|ref e=>exact .ref (L _ _ e)
|kc k=>exact .kc k
theorem bJ.mono(h:bJ K G xs ds)(L:∀a d,G a=some d->G' a=some d):bJ K G' xs ds:=Paired.mono (fun _ _ r=>r.mono L) h
theorem gl.mono(h:gl K G xs ds)(L:∀a d,G a=some d->G' a=some d):gl K G' xs ds:=Paired.mono (fun _ _ r=>⟨r.1,r.2.mono L⟩) h
theorem OB.mono(h:OB K G H a d)(U:∀a d,G a=some d->G' a=some d)(L:∀o,H a=some o->H' a=some o):OB K G' H' a d:=by
 have Y:∀{u:HO},Rd H a u->Rd H' a u:=fun r=>by
  rcases r with r|⟨o,r⟩
  .exact .inl (L _ r)
  .exact .inr ⟨o,L _ r⟩
 cases h with
|lst r s=>exact .lst (Y r) (s.mono U)
|tup r s=>exact .tup (Y r) (s.mono U)
|dic r s=>exact .dic (L _ r) (gl.mono s U)
|exc r n f=>exact .exc (L _ r) n (f.mono U)
|fld r s=>exact .fld (L _ r) (Paired.mono (fun _ _ r=>⟨r.1,r.2.mono U⟩) s)
|ins r n s=>exact .ins (L _ r) n (Paired.mono (fun _ _ r=>⟨r.1,r.2.mono U⟩) s)
theorem OB.isS(h:OB K G H a d):H a≠none:=by cases h with
|lst r s=>exact Rd.isS r
|tup r s=>exact Rd.isS r
|dic r s=>rw[r];simp
|exc r n f=>rw[r];simp
|fld r s=>rw[r];simp
|ins r n s=>rw[r];simp
theorem bi.isN(g:bi K G H)(h:H p=none):G p=none:=by cases e:G p with
|none=>rfl
|some d=>exact Q_g h (g p d e).isS
theorem OwnO.isS(h:OwnO K G H a d):H a≠none:=by cases h with
|lst r s=>rw[r];simp
|dic r s=>rw[r];simp
theorem OwnO.mono(h:OwnO K G H a d)(U:∀a d,G a=some d->G' a=some d)(L:∀o,H a=some o->H' a=some o):OwnO K G' H' a d:=by cases h with
|lst r s=>exact .lst (L _ r) (s.mono U)
|dic r s=>exact .dic (L _ r) (gl.mono s U)
theorem Own.mono(h:Own K G H a d)(w:Grow K G H G' H'):Own K G' H' a d:=⟨by rw[w.gf a h.ob.isS];exact h.un,h.ob.mono w.ge fun o e=>w.he _ _ e⟩
def fz(H:Hp)(a:Addr)(ob:Obj):Hp:=match H a with
|some (.dK ps)=>aO H a (.frz ob (.dK ps))
|_=>H
theorem oj(h:b≠a):fz H a L b=H b:=by unfold fz;cases e:H a with
|none=>rfl
|some u=>cases u <;> first|rfl|exact bN h
theorem MF(h:H a=some (.lst xs)):fz H a L=H:=by unfold fz;rw[h]
theorem Ll(h:H a=some (.dK ps)):fz H a L a=some (.frz L (.dK ps)):=by unfold fz;rw[h];exact bV
theorem OwnO.fast(h:OwnO K G H a d)(L:Obj):OB K G (fz H a L) a d:=by cases h with
|lst r s=>rw[MF r];exact .lst (.inl r) s
|dic r s=>exact .dic (Ll r) s
theorem bi.fast(g:bi K G H)(Y:G a=none)(L:Obj):bi K G (fz H a L):=fun b d e=>by
 have U:b≠a:=by grind
 exact(g b d e).mono (by grind) fun o z=>by rw[oj U];exact z
theorem Grow.refl(g:bi K G H):Grow K G H G H:=⟨g,fun _ _ e=>e,fun _ _ e=>e,fun _ _=>rfl⟩
theorem Grow.trans(x:Grow K G H G1 H1)(y:Grow K G1 H1 G2 H2):Grow K G H G2 H2:=
 ⟨y.ok,fun a o e=>y.he _ _ (x.he _ _ e),fun a d e=>y.ge _ _ (x.ge _ _ e),fun a h=>by
  have L:H1 a≠Option.none:=by cases e:H a with
  |none=>exact Q_g e h
  |some o=>rw[x.he _ _ e];simp
  rw[y.gf a L,x.gf a h]⟩
def gset(G:GH)(a:Addr)(d:D):GH:=fun b=>if b=a then some d else G b
theorem ga:gset G a d a=some d:=Q_e rfl
theorem ly(h:b≠a):gset G a d b=G b:=Q_f h
theorem jl(L:G a=none):∀b e,G b=some e->gset G a d b=some e:=fun b e h=>by
 have:b≠a:=by grind
 rw[ly this];exact h
theorem bi.gset(g:bi K G H)(L:G a=none)(o:OB K G H a d):bi K (gset G a d) H:=fun b e h=>by
 by_cases U:b=a
 .subst U;rw[ga]at h;cases h;exact o.mono (jl L) fun _ q=>q
 .rw[ly U]at h;exact(g b e h).mono (jl L) fun _ q=>q
theorem FZ(L:H p=none):∀a u,H a=some u->aO H p o a=some u:=fun a u e=>by rw[bN (ko e L)];exact e
theorem Grow.new(g:bi K G H)(L:H p=none)(o:HO):Grow K G H G (aO H p o):=⟨fun a d e=>(g a d e).mono (by grind) fun u q=>FZ L _ _ q,fun a u e=>FZ L _ _ e,fun _ _ e=>e,fun _ _=>rfl⟩
theorem Grow.newF(g:bi K G H)(L:H p=none)(Y:OB K G (aO H p o) p d):Grow K G H (gset G p d) (aO H p o):=by have w:=Grow.new g L o;have U:=g.isN L;exact⟨w.ok.gset U Y,w.he,fun a e h=>jl U a e h,fun a h=>ly (by rintro rfl;exact h L)⟩
theorem Grow.frz(w:Grow K G H G' H')(U:H a=none)(o:Own K G' H' a d)(L:Obj):Grow K G H (gset G' a d) (fz H' a L):=⟨(w.ok.fast o.un L).gset o.un (o.ob.fast L),fun b u e=>by rw[oj (by grind)];exact w.he b u e,fun b e h=>jl o.un b e (w.ge b e h),fun b h=>by rw[ly (by grind)];exact w.gf b h⟩
theorem RG.lst{ds:List D}(g:bi K G H)(h:RG K G v (.lst ds)):∃a xs,v=.ref a/\bp K H a xs/\bJ K G xs ds:=by cases h with
|scl s=>cases s
|ref e=>cases g _ _ e with
 |lst r s=>exact⟨_,_,rfl,.inl r,s⟩
|kc k=>cases k with
 |lst r s=>
   refine⟨_,_,rfl,?_,Paired.mono (fun _ _ z=>.scl z) s⟩;rcases r with(r|⟨o,r⟩)|r
   .cases r
   .cases r
   .exact .inr r
theorem RG.tup{ds:List D}(g:bi K G H)(h:RG K G v (.tup ds)):∃a xs,v=.ref a/\cg K H a xs/\bJ K G xs ds:=by cases h with
|scl s=>cases s
|ref e=>cases g _ _ e with
 |tup r s=>exact⟨_,_,rfl,.inl r,s⟩
|kc k=>cases k with
 |tup r s _=>
   refine⟨_,_,rfl,?_,Paired.mono (fun _ _ z=>.scl z) s⟩;rcases r with(r|⟨o,r⟩)|r
   .cases r
   .cases r
   .exact .inr r
theorem RG.dic{L:List (aU×D)}(g:bi K G H)(h:RG K G v (.dic L)):∃a ps,v=.ref a/\Rd H a (.dK ps)/\gl K G ps L:=by cases h with
|scl s=>cases s
|ref e=>cases g _ _ e with
 |dic r s=>exact⟨_,_,rfl,.inr ⟨_,r⟩,s⟩
|kc k=>cases k
theorem RG.int(g:bi K G H)(h:RG K G v (.int i)):v=.int i:=by cases h with
|scl s=>cases s;rfl
|ref e=>cases g _ _ e
|kc k=>cases k
theorem RG.str(g:bi K G H)(h:RG K G v (.str x)):v=.str x:=by cases h with
|scl s=>cases s;rfl
|ref e=>cases g _ _ e
|kc k=>cases k
theorem RG.bl(g:bi K G H)(h:RG K G v (.bl b)):v=.bl b:=by cases h with
|scl s=>cases s;rfl
|ref e=>cases g _ _ e
|kc k=>cases k
theorem RG.non(g:bi K G H)(h:RG K G v .non):v=.non:=by cases h with
|scl s=>cases s;rfl
|ref e=>cases g _ _ e
|kc k=>cases k
def RB(K:W.Frag)(G:GH)(H:Hp)(v:V)(d:D):Prop:=RG K G v d\/∃a,v=.ref a/\Own K G H a d
theorem RG.rb(h:RG K G v d):RB K G H v d:=.inl h
theorem RB.mono(h:RB K G H v d)(w:Grow K G H G' H'):RB K G' H' v d:=by
 rcases h with h|⟨a,e,h⟩
 .exact .inl (h.mono w.ge)
 .exact .inr ⟨a,e,h.mono w⟩
theorem RB.lst{ds:List D}(g:bi K G H)(h:RB K G H v (.lst ds)):∃a xs,v=.ref a/\bp K H a xs/\bJ K G xs ds:=by
 rcases h with h|⟨a,e,h⟩
 .exact h.lst g
 .cases h.ob with
 |lst r s=>exact⟨a,_,e,bp.of r,s⟩
theorem RB.tup{ds:List D}(g:bi K G H)(h:RB K G H v (.tup ds)):∃a xs,v=.ref a/\cg K H a xs/\bJ K G xs ds:=by
 rcases h with h|⟨a,e,h⟩
 .exact h.tup g
 .cases h.ob
theorem RB.dic{L:List (aU×D)}(g:bi K G H)(h:RB K G H v (.dic L)):∃a ps,v=.ref a/\Rd H a (.dK ps)/\gl K G ps L:=by
 rcases h with h|⟨a,e,h⟩
 .exact h.dic g
 .cases h.ob with
 |dic r s=>exact⟨a,_,e,.inl r,s⟩
theorem RB.int(g:bi K G H)(h:RB K G H v (.int i)):v=.int i:=by
 rcases h with h|⟨a,e,h⟩
 .exact h.int g
 .cases h.ob
theorem RB.str(g:bi K G H)(h:RB K G H v (.str x)):v=.str x:=by
 rcases h with h|⟨a,e,h⟩
 .exact h.str g
 .cases h.ob
theorem RB.bl(g:bi K G H)(h:RB K G H v (.bl b)):v=.bl b:=by
 rcases h with h|⟨a,e,h⟩
 .exact h.bl g
 .cases h.ob
theorem RB.non(g:bi K G H)(h:RB K G H v .non):v=.non:=by
 rcases h with h|⟨a,e,h⟩
 .exact h.non g
 .cases h.ob
theorem Paired.get:∀{l:List U}{r:List L}{i:Nat}{b:L},Paired F l r->r[i]? = some b->∃a,l[i]? = some a/\F a b
|_,_,_,_,.nil,e=>by simp at e
|_,_,0,_,.cons h _,e=>by simp at e;subst e;exact⟨_,rfl,h⟩
|_,_,i+1,b,.cons _ t,e=>by obtain⟨a,Z,Y⟩:=Paired.get (i:=i) t (by simpa using e);exact⟨a,by simpa using Z,Y⟩
theorem Paired.app{l Y:List U}{r r':List L}(h:Paired F l r)(q:Paired F Y r'):Paired F (l++Y) (r++r'):=by induction h with
|nil=>exact q
|cons h _ Z=>exact .cons h Z
theorem Paired.tk{l:List U}{r:List L}(n:Nat)(h:Paired F l r):Paired F (l.take n) (r.take n):=by induction h generalizing n with
|nil=>cases n <;> exact .nil
|cons h _ Y=>cases n with
 |zero=>exact .nil
 |succ n=>exact .cons h (Y n)
theorem Paired.dr{l:List U}{r:List L}(n:Nat)(h:Paired F l r):Paired F (l.drop n) (r.drop n):=by induction h generalizing n with
|nil=>cases n <;> exact .nil
|cons h t Y=>cases n with
 |zero=>exact .cons h t
 |succ n=>exact Y n
theorem Paired.st{a:U}{b:L}(h:F a b)(n:Nat)(p:Paired F l r):Paired F (l.set n a) (r.set n b):=by induction p generalizing n with
|nil=>exact .nil
|cons q t Y=>cases n with
 |zero=>exact .cons h t
 |succ n=>exact .cons q (Y n)
theorem Paired.er{l:List U}{r:List L}(n:Nat)(p:Paired F l r):Paired F (l.eraseIdx n) (r.eraseIdx n):=by induction p generalizing n with
|nil=>exact .nil
|cons q t Y=>cases n with
 |zero=>exact t
 |succ n=>exact .cons q (Y n)
end
inductive Md where
 |sh|ow|bw
 deriving DecidableEq
abbrev am:=List (Option D)
structure GE where
 gh:GH
 h0:Hp
 hd:Nat->Option (Option V×Option D)
def Bw(K:W.Frag)(h0:Hp)(G:GH)(H:Hp)(v:V)(d:D):Prop:=RG K G v d\/∃a,v=V.ref a/\Own K G H a d/\h0 a≠none
theorem Bw.grow(h:Bw K L G H v d)(w:Grow K G H Y U):Bw K L Y U v d:=by
 rcases h with h|⟨a,e,b,Z⟩
 .exact .inl (h.mono w.ge)
 .exact .inr ⟨a,e,b.mono w,Z⟩
theorem Bw.rb(h:Bw K U G H v d):RB K G H v d:=by
 rcases h with h|⟨a,e,L,Y⟩
 .exact .inl h
 .exact .inr ⟨a,e,L⟩
def Lk(r:am)(st:L2.St)(i:Nat)(o:Option V×Option D):Prop:=st[i]? = some o.1/\∀d,r[i]? = some (some d)->o.2=some d
structure SI(X:Cx)(g:GE)(m:List Md)(r:am)(G:GH)(st:L2.St)(H:Hp):Prop where
 gok:bi X.K G H
 old:∀a o,g.h0 a=some o->H a=some o
 ge:∀a d,g.gh a=some d->G a=some d
 gf:∀a,g.h0 a≠none->G a=g.gh a
 lm:m.length=st.length
 lr:r.length=st.length
 sh:∀(i:Nat) d,r[i]? = some (some d)->m[i]? = some .sh->∃v,st[i]? = some (some v)/\RG X.K G v d
 ow:∀(i:Nat) d,r[i]? = some (some d)->m[i]? = some .ow->∃a,st[i]? = some (some (V.ref a))/\Own X.K G H a d/\g.h0 a=none
 bw:∀(i:Nat) d,r[i]? = some (some d)->m[i]? = some .bw->∃v,st[i]? = some (some v)/\Bw X.K g.h0 G H v d
 dis:∀(i j:Nat) a d e,i≠j->r[i]? = some (some d)->r[j]? = some (some e)->m[i]? = some .ow->m[j]? = some .ow->st[i]? = some (some (V.ref a))->st[j]? = some (some (V.ref a))->False
 lk:∀(i:Nat) o,g.hd i=some o->m[i]? = some .bw->Lk r st i o
variable{X:Cx}{g:GE}{m:List Md}{r:am}
section
variable{st:L2.St}
theorem SI.grow(s:SI X g m r G st H)(w:Grow X.K G H G' H'):SI X g m r G' st H' where
 gok:=w.ok
 old:=fun a o e=>w.he _ _ (s.old a o e)
 ge:=fun a d e=>w.ge _ _ (s.ge a d e)
 gf:=fun a h=>by
  have L:H a≠none:=by cases e:g.h0 a with
  |none=>exact Q_g e h
  |some o=>rw[s.old _ _ e];simp
  rw[w.gf a L,s.gf a h]
 lm:=s.lm
 lr:=s.lr
 sh:=fun i d L Z=>by obtain⟨v,Y,U⟩:=s.sh i d L Z;exact⟨v,Y,U.mono w.ge⟩
 ow:=fun i d L Z=>by obtain⟨a,Y,U,b⟩:=s.ow i d L Z;exact⟨a,Y,U.mono w,b⟩
 bw:=fun i d L Z=>by obtain⟨v,Y,U⟩:=s.bw i d L Z;exact⟨v,Y,U.grow w⟩
 dis:=s.dis
 lk:=s.lk
theorem SI.grown(s:SI X g m r G st H):Grow X.K g.gh g.h0 G H:=⟨s.gok,s.old,s.ge,s.gf⟩
theorem SI.frz(s:SI X g m r G st H)(i:Nat)(w:m[i]? = some .ow):(∃q,(∀a d,G a=some d->q a=some d)/\SI X g (m.set i .sh) r q st H)\/∃a,∀u,∃q,(∀a d,G a=some d->q a=some d)/\SI X g (m.set i .sh) r q st (fz H a u):=by
 have f:i<m.length:=(h_.mp w).1;by_cases p:∃d,r[i]? = some (some d)
 .obtain⟨d,hd⟩:=p;obtain⟨a,y,l,x⟩:=s.ow i d hd w;refine .inr ⟨a,fun u=>⟨gset G a d,jl l.un,(s.gok.fast l.un u).gset l.un (l.ob.fast u),fun b o e=>by rw[oj (by rintro rfl;rw[x]at e;cases e)];exact s.old b o e,fun b e h=>jl l.un b e (s.ge b e h),fun b h=>?_,by simpa using s.lm,s.lr,?_,?_,?_,?_,fun j o Z Y=>?_⟩⟩
  .rw[ly (by rintro rfl;exact h x)];exact s.gf b h
  .intro j e Z Y;by_cases L:i=j
   .subst L;rw[hd]at Z;cases Z;exact⟨_,y,.ref ga⟩
   .rw[j_ L]at Y;obtain⟨v,q1,c⟩:=s.sh j e Z Y;exact⟨v,q1,c.mono (jl l.un)⟩
  .intro j e Z Y;by_cases L:i=j
   .subst L;rw[x_ f]at Y;cases Y
   .rw[j_ L]at Y;obtain⟨b,q1,c,t⟩:=s.ow j e Z Y;have U:b≠a:=by
     rintro rfl
     exact s.dis i j b d e L hd Z w Y y q1
    exact⟨b,q1,⟨by rw[ly U];exact c.un,c.ob.mono (jl l.un) fun _ z=>by rw[oj U];exact z⟩,t⟩
  .intro j e Z Y;by_cases L:i=j
   .subst L;rw[x_ f]at Y;cases Y
   .rw[j_ L]at Y;obtain⟨v,q1,c⟩:=s.bw j e Z Y;refine⟨v,q1,?_⟩;rcases c with c|⟨b,rfl,c,t⟩
    .exact .inl (c.mono (jl l.un))
    .have U:b≠a:=by rintro rfl;exact t x
     exact .inr ⟨b,rfl,⟨by rw[ly U];exact c.un,c.ob.mono (jl l.un) fun _ z=>by rw[oj U];exact z⟩,t⟩
  .intro j k b e e' hjk Z hk Y hm' q1 c;have L:i≠j:=by
    rintro rfl
    rw[x_ f]at Y;cases Y
   have n:i≠k:=by
    rintro rfl
    rw[x_ f]at hm';cases hm'
   rw[j_ L]at Y;rw[j_ n]at hm';exact s.dis j k b e e' hjk Z hk Y hm' q1 c
  .refine s.lk j o Z ?_;by_cases L:i=j
   .subst L;rw[x_ f]at Y;cases Y
   .rw[j_ L]at Y;exact Y
 .refine .inl ⟨G,fun _ _ z=>z,s.gok,s.old,s.ge,s.gf,by simpa using s.lm,s.lr,?_,?_,?_,?_,fun j o Z Y=>?_⟩
  .intro j e Z Y;have L:i≠j:=by rintro rfl;exact p ⟨e,Z⟩
   rw[j_ L]at Y;exact s.sh j e Z Y
  .intro j e Z Y;have L:i≠j:=by rintro rfl;exact p ⟨e,Z⟩
   rw[j_ L]at Y;exact s.ow j e Z Y
  .intro j e Z Y;have L:i≠j:=by rintro rfl;exact p ⟨e,Z⟩
   rw[j_ L]at Y;exact s.bw j e Z Y
  .intro j k b e e' hjk Z hk Y hm' q1 c;have L:i≠j:=by rintro rfl;exact p ⟨e,Z⟩
   have n:i≠k:=by rintro rfl;exact p ⟨e',hk⟩
   rw[j_ L]at Y;rw[j_ n]at hm';exact s.dis j k b e e' hjk Z hk Y hm' q1 c
  .refine s.lk j o Z ?_;by_cases L:i=j
   .subst L;rw[x_ f]at Y;cases Y
   .rw[j_ L]at Y;exact Y
end
theorem PE.imp(h:PE X e t)(i:∀σ H Q,t' σ H Q->t σ H Q):PE X e t':=fun L s σ H Q I q=>h L s σ H Q I (i σ H Q q)
theorem PT.imp(h:PT X e t)(i:∀σ H Q,t' σ H Q->t σ H Q):PT X e t':=fun L s σ H Q I q=>h L s σ H Q I (i σ H Q q)
theorem PW.imp(h:PW X e t)(i:∀σ H Q,t' σ H Q->t σ H Q):PW X e t':=fun L U s σ H Q I q=>h L U s σ H Q I (i σ H Q q)
theorem PA.imp(h:PA X e t)(i:∀σ H Q,t' σ H Q->t σ H Q):PA X e t':=fun L U s σ H Q I q=>h L U s σ H Q I (i σ H Q q)
theorem PS.imp(h:PS X e t)(i:∀D σ H,t' D σ H->t D σ H):PS X e t':=fun L s σ H D I q=>h L s σ H D I (i D σ H q)
theorem dI.imp(h:dI X e t)(i:∀D σ H,t' D σ H->t D σ H):dI X e t':=fun L s σ H D I q=>h L s σ H D I (i D σ H q)
def K7(X:Cx)(σ:L2.St)(G:GH)(H':Hp)(e:Value)(x:D)(s':c_):Prop:=∃pz s H1 a C od nm ds,e=.ref a/\x=xD nm ds/\XN X.K nm C/\XF G od ds/\Inv X pz σ H1 s/\Fly X.prog X.w X.stack H1 s H' a (.ref C) od s'
def XW(X:Cx)(σ:L2.St)(G:GH)(H:Hp)(x:D):Prop:=∀pz e s' G' H',Grow X.K G H G' H'->Inv X pz σ H' s'->K7 X σ G' H' e x s'->X.xe e s'
theorem XW.grow(h:XW X σ G H x)(w:Grow X.K G H U L):XW X σ U L x:=fun a e Z c b Y I q=>h a e Z c b (w.trans Y) I q
abbrev FE:=am->Res D
def tE(X:Cx)(g:GE)(m:List Md)(f:FE):TE:=fun σ H Q=>∃r G,SI X g m r G σ H/\fin (f r) (fun d=>∀v G' H',Grow X.K G H G' H'->RG X.K G' v d->Q v H') (XW X σ G H)
def tB(X:Cx)(g:GE)(m:List Md)(f:FE):TE:=fun σ H Q=>∃r G,SI X g m r G σ H/\fin (f r) (fun d=>∀v G' H',Grow X.K G H G' H'->RB X.K G' H' v d->Q v H') (XW X σ G H)
def tO(X:Cx)(g:GE)(m:List Md)(f:FE):TE:=fun σ H Q=>∃r G,SI X g m r G σ H/\fin (f r) (fun d=>∀a G' H',Grow X.K G H G' H'->H a=none->Own X.K G' H' a d->Q (.ref a) H') (XW X σ G H)
def tQ(X:Cx)(g:GE)(m:List Md)(f:am->Res Bool):TT:=fun σ H Q=>∃r G,SI X g m r G σ H/\fin (f r) (fun b=>∀G' H',Grow X.K G H G' H'->Q b H') (XW X σ G H)
def tL(X:Cx)(g:GE)(m:List Md)(f:am->Res (List D)):TA:=fun σ H Q=>∃r G,SI X g m r G σ H/\fin (f r) (fun ds=>∀vs G' H',Grow X.K G H G' H'->bJ X.K G' vs ds->Q vs H') (XW X σ G H)
def De(X:Cx)(g:GE)(m:List Md)(f:am->Res (List D)):TA:=fun σ H Q=>∃r G,SI X g m r G σ H/\fin (f r) (fun ds=>∀vs G' H',Grow X.K G H G' H'->Paired (RB X.K G' H') vs ds->Q vs H') (XW X σ G H)
def SE(X:Cx)(g:GE)(m:List Md)(e:Expr)(f:FE):Prop:=PE X e (tE X g m f)
def SB(X:Cx)(g:GE)(m:List Md)(e:Expr)(f:FE):Prop:=PE X e (tB X g m f)
def SO(X:Cx)(g:GE)(m:List Md)(e:Expr)(f:FE):Prop:=PE X e (tO X g m f)
def SQ(X:Cx)(g:GE)(m:List Md)(e:Expr)(f:am->Res Bool):Prop:=PT X e (tQ X g m f)
def SW(X:Cx)(g:GE)(m:List Md)(e:Expr)(f:am->Res Bool):Prop:=PW X e (tQ X g m f)
def SA(X:Cx)(g:GE)(m:List Md)(es:List Expr)(f:am->Res (List D)):Prop:=PA X es (tL X g m f)
def fF(X:Cx)(g:GE)(m:List Md)(es:List Expr)(f:am->Res (List D)):Prop:=PA X es (De X g m f)
variable{a e b c:Expr}{f fa fb fc:FE}{pos:Pos}
theorem SE.toB(h:SE X g m e f):SB X g m e f:=PE.imp h fun Z H Q y=>by obtain⟨r,G,L,q⟩:=y;exact ⟨r,G,L,bu q fun d k v Y U w z=>k v Y U w z.rb⟩
theorem Inv.fast{σ:L2.St}(I:Inv X pz σ H s)(a:Addr):∃d,Inv X pz σ (fz H a d) s:=by cases e:H a with
|none=>exact⟨{ cls:=.none,data:=.fields #[] },by unfold fz;rw[e];exact I⟩
|some u=>cases u with
 |dK c=>
   obtain⟨Z,Y,b,z3,o,f,g,L,U⟩:=(I.hok a _ e)
   have h:fz H a o=aO H a (.frz o (.dK c)):=by unfold fz;rw[e]
   refine⟨o,?_⟩;rw[h];exact I.write (by rw[e];exact trivial) (.inl rfl) (by simp_all) ⟨o,L⟩ (⟨L,Z,Y,b,z3,o,f,g,L,U⟩)
 |_=>exact⟨{ cls:=.none,data:=.fields #[] },by unfold fz;rw[e];exact I⟩
theorem SO.toE(h:SO X g m e f):SE X g m e f:=by intro c s Y H Q I ⟨r,G,Z,q⟩;refine aW (h c s Y H (fun v U=>∃a,v=.ref a/\∀L,Q v (fz U a L)) I ⟨r,G,Z,bu q fun d k a p U w i o=>⟨a,rfl,fun L=>k _ _ _ (w.frz i o L) (.ref ga)⟩⟩) fun u n y=>?_;obtain⟨v,U,l,b,a,_,z⟩:=y;obtain⟨L,j⟩:=Inv.fast l a;exact⟨v,_,j,b,z L⟩
theorem SO.toB(h:SO X g m e f):SB X g m e f:=h.toE.toB
theorem sk(h:PE X e (tC v))(s:Scl v d):SE X g m e fun _=>.ok d:=PE.imp h fun U H Q k=>by obtain⟨r,G,L,q⟩:=k;exact q v G H (Grow.refl L.gok) (.scl s)
theorem cO{j}:SE X g m (.Constant (.int i) j pos) fun _=>.ok (.int i):=sk Mj (.int i)
theorem bR{j}:SE X g m (.Constant (.bool i) j pos) fun _=>.ok (.bl i):=sk LK (.bl i)
theorem mX{j}:SE X g m (.Constant .none j pos) fun _=>.ok .non:=sk Fj .non
theorem ED{j}:SE X g m (.Constant (.str i) j pos) fun _=>.ok (.str i):=sk Nv (.str i)
def bh(r:am)(i:Nat):Res D:=match r[i]? with
|some (some d)=>.ok d
|_=>.stuck
theorem sD(h:fin (bh r i) q x):∃d,r[i]? = some (some d)/\q d:=by
 unfold bh at h;split at h
 .rename_i d e;exact⟨d,e,h⟩
 .exact h.elim
theorem Lo(i:Nat)(Z:m[i]? = some .sh)(hN:X.N[i]? = some x)(Y:ik X.env.scope x)(a:(x==("__debug__" : Str))=false:=by decide)(L:(x==("__classdict__" : Str))=false:=by decide):SE X g m (.Name x pos) fun r=>bh r i:=by refine PE.imp (lq hN Y a L) fun f H Q z=>?_;obtain⟨r,G,U,q⟩:=z;obtain⟨d,e,k⟩:=sD q;obtain⟨v,c,b⟩:=U.sh i d e Z;exact⟨v,c,k v G H (Grow.refl U.gok) b⟩
theorem MW(i:Nat)(c:i<m.length)(hN:X.N[i]? = some x)(a:ik X.env.scope x)(f:(x==("__debug__" : Str))=false:=by decide)(L:(x==("__classdict__" : Str))=false:=by decide):SB X g m (.Name x pos) fun r=>bh r i:=by refine PE.imp (lq hN a f L) fun j H Q z=>?_;obtain⟨r,G,U,q⟩:=z;obtain⟨d,e,k⟩:=sD q;have b:=g_ c;cases h:m[i]with
|sh=>obtain⟨v,Z,Y⟩:=U.sh i d e (by simp_all);exact⟨v,Z,k v G H (Grow.refl U.gok) Y.rb⟩
|ow=>obtain⟨v,Z,Y,_⟩:=U.ow i d e (by simp_all);exact⟨_,Z,k _ G H (Grow.refl U.gok) (.inr ⟨v,rfl,Y⟩)⟩
|bw=>obtain⟨v,Z,Y⟩:=U.bw i d e (by simp_all);exact⟨_,Z,k _ G H (Grow.refl U.gok) Y.rb⟩
theorem kA{c:Type}{k:D->D->Res c}{q:c->Prop}{R:V->V->Hp->Prop}{σ:L2.St}{H:Hp}(f:SI X g m r G σ H)(h:fin ((fa r).bind fun d1=>(fb r).bind fun d2=>k d1 d2) q (XW X σ G H))(n:∀d1 d2 Y U a L,Grow X.K G H a L->RB X.K a L Y d1->RB X.K a L U d2->fin (k d1 d2) q (XW X σ G H)->R Y U L):tB X g m fa σ H fun Y i=>tB X g m fb σ i fun U L=>R Y U L:=by refine⟨r,G,f,bu (bv h) fun d1 Z Y o i b l=>⟨r,o,f.grow b,?_⟩⟩;cases e:fb r with
|ok d2=>rw[e]at Z;exact fun U a L d j=>n d1 d2 Y U a L (b.trans d) (l.mono d) j Z
|exc x=>rw[e]at Z;exact(Z).grow b
|stuck=>rw[e]at Z;exact Z
def dD{α:Type}:Option α->Res α
|some a=>.ok a
|none=>.stuck
@[simp] theorem opt_some(a:L):dD (some a)=.ok a:=rfl
theorem cJ{q:L->Prop}(h:fin (dD o) q x):∃a,o=some a/\q a:=by cases o with
|none=>exact h.elim
|some a=>exact⟨a,rfl,h⟩
def dU(K:W.Frag)(r:R2)(k:D->D->Option D):Prop:=∀(G:GH)(H:Hp)(v1 v2:V)(d1 d2 d:D)(Q:VK),bi K G H->RB K G H v1 d1->RB K G H v2 d2->k d1 d2=some d ->(∀v G' H',Grow K G H G' H'->RG K G' v d->Q v H')->r v1 v2 H Q
def DU(K:W.Frag)(r:R2)(k:D->D->Option D):Prop:=∀(G:GH)(H:Hp)(v1 v2:V)(d1 d2 d:D)(Q:VK),bi K G H->RB K G H v1 d1->RB K G H v2 d2->k d1 d2=some d ->(∀a G' H',Grow K G H G' H'->H a=none->Own K G' H' a d->Q (.ref a) H')->r v1 v2 H Q
def f2(fa fb:FE)(k:D->D->Option D):FE:=fun r=>(fa r).bind fun d1=>(fb r).bind fun d2=>dD (k d1 d2)
theorem vP(f:dU X.K R k)(h:PE X e (nX R (tB X g m fa) (tB X g m fb))):SE X g m e (f2 fa fb k):=by refine PE.imp h fun s H Q k=>?_;obtain⟨r,G,a,q⟩:=k;refine kA a q fun j i Z Y o l w c b L=>?_;obtain⟨d,e,L⟩:=cJ L;exact f o l Z Y j i d Q w.ok c b e fun v p n U z=>L v p n (w.trans U) z
theorem MR(j:DU X.K R k)(h:PE X e (nX R (tB X g m fa) (tB X g m fb))):SO X g m e (f2 fa fb k):=by
 refine PE.imp h fun v H Q k=>?_;obtain⟨r,G,c,q⟩:=k;refine kA c q fun n l b Z t p w i f L=>?_;obtain⟨d,e,L⟩:=cJ L;exact j t p b Z n l d Q w.ok i f e fun a u s Y U z=>L a u s (w.trans Y) (by cases q:H a with
 |none=>rfl
 |some o=>rw[w.he _ _ q]at U;cases U) z
theorem jQ(U:br X (ZY L) R)(Y:dU X.K R k)(c:SB X g m a fa)(Z:SB X g m b fb):SE X g m (.BinOp a L b pos) (f2 fa fb k):=vP Y (ET U c Z)
theorem Nq(U:br X (ZY L) R)(Y:DU X.K R k)(c:SB X g m a fa)(Z:SB X g m b fb):SO X g m (.BinOp a L b pos) (f2 fa fb k):=MR Y (ET U c Z)
theorem nh(U:br X (YK L) R)(Y:dU X.K R k)(d:SB X g m a fa)(c:SB X g m b fb)(Z:Z4 L b=false):SE X g m (.Compare a [L] [b] pos) (f2 fa fb k):=vP Y (O9 U d c Z)
def qI:D->Option Bool
|.bl b=>some b
|_=>none
def bj(f:FE):am->Res Bool:=fun r=>(f r).bind fun d=>dD (qI d)
theorem ka(n:br X (YK Y) R)(o:dU X.K R k)(t:SB X g m a fa)(s:SB X g m b fb)(p:Z4 Y b=false):SQ X g m (.Compare a [Y] [b] pos) (bj (f2 fa fb k)):=by
 refine PT.imp (Oy n t s p) fun C H Q a=>?_;obtain⟨r,G,i,q⟩:=a;have e:bj (f2 fa fb k) r=(fa r).bind fun U=>(fb r).bind fun Z=>(dD (k U Z)).bind fun d=>dD (qI d):=by unfold bj f2;cases fa r with
 |ok U=>cases fb r <;> rfl
 |exc _=>rfl
 |stuck=>rfl
 rw[e]at q;refine kA i q fun U Z h f A x w l j L=>?_;obtain⟨d,e,L⟩:=cJ (bv L);obtain⟨b,u,L⟩:=cJ L;cases d with
|bl E=>exact o A x h f U Z _ _ w.ok l j e fun v B y c z=>⟨_,z.bl c.ok,L B y (w.trans c)⟩
|_=>cases u
instance decMul(i j:Int):Decidable (hU i j):=by unfold hU;infer_instance
instance decDiv(i j:Int):Decidable (iS i j):=by unfold iS;infer_instance
instance decPow(i j:Int):Decidable (kU i j):=by unfold kU;infer_instance
def lT(k:Int->Int->D):D->D->Option D
|.int a,.int b=>some (k a b)
|_,_=>none
def kh(C:Int->Int->Prop)[∀a b,Decidable (C a b)](k:Int->Int->D):D->D->Option D
|.int a,.int b=>if C a b then some (k a b)else none
|_,_=>none
@[simp] theorem intsC_int(C:Int->Int->Prop)[∀a b,Decidable (C a b)](k:Int->Int->D)(a b:Int):kh C k (.int a) (.int b)=if C a b then some (k a b)else none:=rfl
theorem jW(hs:∀i j,Scl (gv i j) (L i j)):dU K (jy gv) (lT L):=by
 intro G H a Z c b d Q g Y U e q;unfold lT at e;split at e
 .cases e;exact⟨_,_,Y.int g,U.int g,q _ G H (Grow.refl g) (.scl (hs _ _))⟩
 .cases e
theorem nB{C:Int->Int->Prop}[∀a b,Decidable (C a b)]{gv:Int->Int->V}{L:Int->Int->D}(hs:∀i j,Scl (gv i j) (L i j)):dU K (rI C gv) (kh C L):=by
 intro G H c Z h f d Q g Y U e q;unfold kh at e;split at e
 .split at e
  .rename_i hc;cases e;exact⟨_,_,Y.int g,U.int g,hc,q _ G H (Grow.refl g) (.scl (hs _ _))⟩
  .cases e
 .cases e
abbrev eS:D->D->Option D:=lT fun a b=>.int (a-b)
abbrev bK:D->D->Option D:=kh hU fun a b=>.int (a*b)
abbrev fH:D->D->Option D:=kh iS fun a b=>.int (a/b)
abbrev bn:D->D->Option D:=kh (fun _ b=>0<b) fun a b=>.int (a%b)
abbrev gS:D->D->Option D:=kh kU fun a b=>.int (a^b.toNat)
abbrev ltI:D->D->Option D:=lT fun a b=>.bl (decide (a<b))
abbrev ii:D->D->Option D:=lT fun a b=>.bl (decide (a<=b))
abbrev jd:D->D->Option D:=lT fun a b=>.bl (decide (b<a))
abbrev n0:D->D->Option D:=lT fun a b=>.bl (decide (b<=a))
variable{p q:FQ}{es:List Expr}{fl:am->Res (List D)}
section
theorem gp(U:SB X g m a fa)(L:SB X g m b fb):SE X g m (.BinOp a .Sub b pos) (f2 fa fb eS):=jQ Mg (jW fun _ _=>.int _) U L
theorem dY(U:SB X g m a fa)(L:SB X g m b fb):SE X g m (.BinOp a .Mult b pos) (f2 fa fb bK):=jQ Me (nB fun _ _=>.int _) U L
theorem bY(U:SB X g m a fa)(L:SB X g m b fb):SE X g m (.BinOp a .FloorDiv b pos) (f2 fa fb fH):=jQ OZ (nB fun _ _=>.int _) U L
theorem bz(U:SB X g m a fa)(L:SB X g m b fb):SE X g m (.BinOp a .Mod b pos) (f2 fa fb bn):=jQ Mc (nB fun _ _=>.int _) U L
theorem EC(U:SB X g m a fa)(L:SB X g m b fb):SE X g m (.BinOp a .Pow b pos) (f2 fa fb gS):=jQ Mf (nB fun _ _=>.int _) U L
theorem mC(U:SB X g m a fa)(L:SB X g m b fb):SE X g m (.Compare a [.Lt] [b] pos) (f2 fa fb ltI):=nh ng (jW fun _ _=>.bl _) U L (iY _)
theorem qq(U:SB X g m a fa)(L:SB X g m b fb):SE X g m (.Compare a [.Gt] [b] pos) (f2 fa fb jd):=nh Eo (jW fun _ _=>.bl _) U L (iY _)
theorem Dn(U:SB X g m a fa)(L:SB X g m b fb):SE X g m (.Compare a [.GtE] [b] pos) (f2 fa fb n0):=nh En (jW fun _ _=>.bl _) U L (iY _)
theorem eD(U:SB X g m a fa)(L:SB X g m b fb):SQ X g m (.Compare a [.Lt] [b] pos) (bj (f2 fa fb ltI)):=ka ng (jW fun _ _=>.bl _) U L (iY _)
theorem mG(U:SB X g m a fa)(L:SB X g m b fb):SQ X g m (.Compare a [.LtE] [b] pos) (bj (f2 fa fb ii)):=ka ot (jW fun _ _=>.bl _) U L (iY _)
theorem jz(U:SB X g m a fa)(L:SB X g m b fb):SQ X g m (.Compare a [.Gt] [b] pos) (bj (f2 fa fb jd)):=ka Eo (jW fun _ _=>.bl _) U L (iY _)
theorem Dw(U:SB X g m a fa)(L:SB X g m b fb):SQ X g m (.Compare a [.GtE] [b] pos) (bj (f2 fa fb n0)):=ka En (jW fun _ _=>.bl _) U L (iY _)
def f1(fa:FE)(k:D->Option D):FE:=fun r=>(fa r).bind fun d=>dD (k d)
def Dy:D->Option D
|.int a=>some (.int (-a))
|_=>none
theorem mW(b:SB X g m a fa):SE X g m (.UnaryOp .USub a pos) (f1 fa Dy):=by
 refine PE.imp (LP On b) fun h H Q ⟨r,G,U,q⟩=>⟨r,G,U,bu (bv q) fun d q1 v f c L Y=>?_⟩
 obtain⟨j,e,Z⟩:=cJ q1;cases d with
|int i=>cases e;exact⟨i,Y.int L.ok,Z _ f c L (.scl (.int _))⟩
|_=>cases e
def kt:D->Option Bool
|.non=>some false
|.bl b=>some b
|.int i=>some (i != 0)
|.str y=>if y.length<=sizeLine then some ((y.length:Int) != 0)else none
|.lst ds=>some (! ds.isEmpty)
|.tup ds=>some (! ds.isEmpty)
|.dic kvs=>some (! kvs.isEmpty)
|.obj _ _=>none
theorem Ac{l:List U}{r:List L}(h:Paired F l r):l.isEmpty=r.isEmpty:=by cases h <;> rfl
theorem Pn{b:Bool}(L:bi K G H)(h:RB K G H v d)(e:kt d=some b):mN K v H b:=by cases d with
|non=>cases e;rw[h.non L];rfl
|bl g=>cases e;rw[h.bl L];rfl
|int i=>cases e;rw[h.int L];rfl
|str y=>
  rw[h.str L];have Y:(if y.length<=sizeLine then some ((y.length:Int) != 0)else none)=some b:=e;by_cases Z:y.length<=sizeLine
  .rw[Q_e Z]at Y;cases Y;exact⟨Z,rfl⟩
  .rw[Q_f Z]at Y;cases Y
|lst f=>cases e;obtain⟨a,U,rfl,s,r⟩:=h.lst L;exact .inl ⟨U,s,by rw[Ac r]⟩
|tup f=>cases e;obtain⟨a,U,rfl,s,r⟩:=h.tup L;exact .inr (.inl ⟨U,s,by rw[Ac r]⟩)
|dic c=>cases e;obtain⟨a,U,rfl,s,r⟩:=h.dic L;exact .inr (.inr ⟨U,s,by rw[Ac r]⟩)
|obj _ _=>cases e
def cL(f:FE):am->Res Bool:=fun r=>(f r).bind fun d=>dD (kt d)
theorem dc(h:SB X g m a fa)(f:∀L,isTrue a X.env L=(do let v <-L;Ą a.pos;ñ [v] (truthy v)):=by intro _;rfl):SQ X g m a (cL fa):=by
 refine PT.imp (QR h f) fun k H Q ⟨r,G,Y,q⟩=>⟨r,G,Y,bu (bv q) fun d q1 v j i U Z=>?_⟩
 obtain⟨b,e,c⟩:=cJ q1;exact⟨b,Pn U.ok Z e,c j i U⟩
abbrev FQ:=am->Res Bool
def fR(p q:FQ):FQ:=fun r=>(p r).bind fun c=>if c=true then q r else .ok false
def gz(p q:FQ):FQ:=fun r=>(p r).bind fun c=>if c=true then .ok true else q r
def dR(p:FQ):FQ:=fun r=>(p r).bind fun c=>.ok (! c)
variable{rest:List Expr}
theorem Vj{r:Res L}{q:L->Prop}(h:fin r q x)(Y:∀e,x e->U e):fin r q U:=by cases r with
|ok a=>exact h
|exc e=>exact Y e h
|stuck=>exact h
theorem ic{r:Res L}(h:fin r P (XW X σ G H))(w:Grow X.K G H Z Y)(b:∀a,P a->U a):fin r U (XW X σ Z Y):=Vj (bu h b) fun _ x=>x.grow w
theorem wT(L:SQ X g m a p):SW X g m (.BoolOp .And [a] pos) p:=Oz L
theorem fj(L:SQ X g m a p):SW X g m (.BoolOp .Or [a] pos) p:=Nc L
theorem vM(f:SQ X g m a p)(e:SW X g m (.BoolOp .And (b::rest) pos) q):SW X g m (.BoolOp .And (a::b::rest) pos) (fR p q):=by
 refine PW.imp (Nb f e) fun l H Q ⟨r,G,U,k⟩=>⟨r,G,U,bu (bv k) fun c Y Z h L=>?_⟩
 cases c with
|true=>exact⟨r,Z,U.grow L,ic Y L fun b z j i d=>z j i (L.trans d)⟩
|false=>exact Y Z h L
theorem bF(f:SQ X g m a p)(e:SW X g m (.BoolOp .Or (b::rest) pos) q):SW X g m (.BoolOp .Or (a::b::rest) pos) (gz p q):=by
 refine PW.imp (LV f e) fun l H Q ⟨r,G,U,k⟩=>⟨r,G,U,bu (bv k) fun c Y Z h L=>?_⟩
 cases c with
|true=>exact Y Z h L
|false=>exact⟨r,Z,U.grow L,ic Y L fun b z j i d=>z j i (L.trans d)⟩
theorem SW.toQ(h:SW X g m e p):SQ X g m e p:=PW.pt h
theorem d7(Z:SQ X g m a p):SQ X g m (.UnaryOp .Not a pos) (dR p):=PT.imp (Na Z) fun e H Q z=>by obtain⟨r,G,U,k⟩:=z;exact ⟨r,G,U,bu (bv k) fun c Y d b L=>Y d b L⟩
def gO(fa fb:FE):FE:=fun r=>(fa r).bind fun d=>(dD (qI d)).bind fun c=>if c=true then fb r else .ok (.bl false)
def mw(fa:FE):FE:=fun r=>(fa r).bind fun d=>(dD (qI d)).bind fun c=>.ok (.bl (! c))
theorem gL{op}(h:SE X g m a fa):SE X g m (.BoolOp op [a] pos) fa:=Nu h
theorem fm(l:SE X g m a fa)(j:SE X g m (.BoolOp .And (b::rest) pos) fb):SE X g m (.BoolOp .And (a::b::rest) pos) (gO fa fb):=by
 refine PE.imp (Mh l j) fun q H Q ⟨r,G,U,k⟩=>⟨r,G,U,bu (bv k) fun d i v Z n L h=>?_⟩
 obtain⟨c,e,Y⟩:=cJ (bv i);cases d with
|bl s=>cases e;refine⟨_,h.bl L.ok,?_⟩;cases c with
 |true=>exact⟨r,Z,U.grow L,ic Y L fun b z v p o f=>z v p o (L.trans f)⟩
 |false=>exact Y _ Z n L (.scl (.bl _))
|_=>cases e
theorem vO(f:SE X g m a fa):SE X g m (.UnaryOp .Not a pos) (mw fa):=by
 refine PE.imp (Nt f) fun j H Q ⟨r,G,U,k⟩=>⟨r,G,U,bu (bv k) fun d b v i h L Y=>?_⟩
 obtain⟨c,e,Z⟩:=cJ (bv b);cases d with
|bl l=>cases e;exact⟨_,Y.bl L.ok,Z _ i h L (.scl (.bl _))⟩
|_=>cases e
variable{fr:am->Res (List D)}
def ag:am->Res (List D):=fun _=>.ok []
def ak(fa:FE)(fl:am->Res (List D)):am->Res (List D):=fun r=>(fa r).bind fun d=>(fl r).bind fun ds=>.ok (d::ds)
theorem aP:SA X g m [] ag:=PA.imp iZ fun U H Q z=>by obtain⟨r,G,L,k⟩:=z;exact k [] G H (Grow.refl L.gok) .nil
theorem au(f:SE X g m e fa)(c:SA X g m es fl)(hs:f_ (e::es) X.env=(false,eval e X.env)::f_ es X.env:=by rfl):SA X g m (e::es) (ak fa fl):=by
 refine PA.imp (fZ f c hs) fun l H Q ⟨r,G,Y,k⟩=>⟨r,G,Y,bu (bv k) fun d b v j p L a=>⟨r,j,Y.grow L,?_⟩⟩
 exact ic (bv b) L fun o z n i h U Z=>z _ i h (L.trans U) (.cons (a.mono U.ge) Z)
theorem ay:fF X g m [] ag:=PA.imp iZ fun U H Q z=>by obtain⟨r,G,L,k⟩:=z;exact k [] G H (Grow.refl L.gok) .nil
theorem ax(f:SB X g m e fa)(c:fF X g m es fl)(hs:f_ (e::es) X.env=(false,eval e X.env)::f_ es X.env:=by rfl):fF X g m (e::es) (ak fa fl):=by
 refine PA.imp (fZ f c hs) fun l H Q ⟨r,G,Y,k⟩=>⟨r,G,Y,bu (bv k) fun d b v j p L a=>⟨r,j,Y.grow L,?_⟩⟩
 exact ic (bv b) L fun o z n i h U Z=>z _ i h (L.trans U) (.cons (a.mono U) Z)
def sz(ds:List D):Option (List D):=if ds.length<=sizeLine then some ds else none
theorem wC(h:sz ds=some L):L=ds/\ds.length<=sizeLine:=by unfold sz at h;grind
theorem Ls(h:ds.length<=sizeLine):sz ds=some ds:=Q_e h
def ie(fl:am->Res (List D)):FE:=fun r=>(fl r).bind fun ds=>(dD (sz ds)).bind fun ds=>.ok (.tup ds)
def jE(fl:am->Res (List D)):FE:=fun r=>(fl r).bind fun ds=>(dD (sz ds)).bind fun ds=>.ok (.lst ds)
theorem bD{x1}(h:SA X g m es fl):SE X g m (.Tuple es x1 pos) (ie fl):=by
 refine PE.imp (Fk h) fun f H Q ⟨r,G,Z,k⟩=>⟨r,G,Z,bu (bv k) fun l b i o n L U=>?_⟩
 obtain⟨d,e,a⟩:=cJ (bv b);obtain⟨rfl,j⟩:=wC e;have Y:=Paired.length U;refine⟨by omega,fun p c=>?_⟩;exact a _ _ _ (L.trans (Grow.newF L.ok c (.tup (.inl bV) U))) (.ref ga)
theorem dy(h:SA X g m es fl):SO X g m (.List es pos) (jE fl):=by
 refine PE.imp (Ml h) fun j H Q ⟨r,G,a,k⟩=>⟨r,G,a,bu (bv k) fun s c l i t L Y=>?_⟩
 obtain⟨f,e,b⟩:=cJ (bv c);obtain⟨rfl,n⟩:=wC e;have Z:=Paired.length Y;refine⟨by omega,fun p U=>?_⟩;have d:H p=none:=by cases q:H p with
 |none=>rfl
 |some o=>rw[L.he _ _ q]at U;cases U
 exact b p i _ (L.trans (Grow.new L.ok U _)) d ⟨L.ok.isN U,.lst bV Y⟩
end
def kZ(K:W.Frag)(r:List V->Hp->VK->Prop)(k:List D->Option D):Prop:=∀(G:GH)(H:Hp)(vs:List V)(ds:List D)(d:D)(Q:VK),bi K G H->Paired (RB K G H) vs ds->k ds=some d ->(∀v G' H',Grow K G H G' H'->RG K G' v d->Q v H')->r vs H Q
def Eh(K:W.Frag)(r:List V->Hp->VK->Prop)(k:List D->Option D):Prop:=∀(G:GH)(H:Hp)(vs:List V)(ds:List D)(d:D)(Q:VK),bi K G H->Paired (RB K G H) vs ds->k ds=some d ->(∀a G' H',Grow K G H G' H'->H a=none->Own K G' H' a d->Q (.ref a) H')->r vs H Q
def fC(fl:am->Res (List D))(k:List D->Option D):FE:=fun r=>(fl r).bind fun ds=>dD (k ds)
theorem Grow.back(w:Grow K G H Y U){a:Addr}(L:U a=none):H a=none:=by cases q:H a with
|none=>rfl
|some o=>rw[w.he _ _ q]at L;cases L
variable{id T:String}
section
variable{p p2:Pos}{x:Str}{R:List V->Hp->VK->Prop}{k:List D->Option D}
theorem eU(c:kZ X.K R k)(h:PE X e (lH R (De X g m fl))):SE X g m e (fC fl k):=by
 refine PE.imp h fun o H Q ⟨r,G,Z,q⟩=>⟨r,G,Z,bu (bv q) fun f q1 Y l i L a=>?_⟩
 obtain⟨d,e,b⟩:=cJ q1;exact c l i Y f d Q L.ok a e fun v n j U z=>b v n j (L.trans U) z
theorem rA(f:Eh X.K R k)(h:PE X e (lH R (De X g m fl))):SO X g m e (fC fl k):=by
 refine PE.imp h fun p H Q ⟨r,G,Z,q⟩=>⟨r,G,Z,bu (bv q) fun i q1 Y n j L a=>?_⟩
 obtain⟨d,e,b⟩:=cJ q1;exact f n j Y i d Q L.ok a e fun v o l U c z=>b v o l (L.trans U) (L.back c) z
def lenD:List D->Option D
|[.str y]=>if y.length<=sizeLine then some (.int y.length)else none
|[.lst ds]=>some (.int ds.length)
|[.tup ds]=>some (.int ds.length)
|[.dic kvs]=>some (.int kvs.length)
|_=>none
theorem ME:kZ K (fun xs H Q=>(∃x n,xs=[x]/\qP K x H n/\Q (.int n) H)\/∃a U,xs=[V.ref a]/\Rd H a (.dK U)/\Q (.int U.length) H) lenD:=by
 intro G H Z b d Q L Y e q;unfold lenD at e;split at e
 .split at e
  .cases e;cases Y with
  |cons r t=>cases t;exact .inl ⟨_,_,rfl,by rw[r.str L];exact⟨by assumption,rfl⟩,q _ G H (Grow.refl L) (.scl (.int _))⟩
  .cases e
 .cases e;cases Y with
 |cons r t=>cases t;obtain⟨a,xs,rfl,s,r⟩:=r.lst L;have:=Paired.length r;exact .inl ⟨_,_,rfl,.inl ⟨xs,s,rfl⟩,q _ G H (Grow.refl L) (.scl (by rw[this];exact .int _))⟩
 .cases e;cases Y with
 |cons r t=>cases t;obtain⟨a,xs,rfl,s,r⟩:=r.tup L;have:=Paired.length r;exact .inl ⟨_,_,rfl,.inr ⟨xs,s,rfl⟩,q _ G H (Grow.refl L) (.scl (by rw[this];exact .int _))⟩
 .cases e;cases Y with
 |cons r t=>cases t;obtain⟨a,xs,rfl,s,r⟩:=r.dic L;have:=Paired.length r;exact .inr ⟨_,_,rfl,s,q _ G H (Grow.refl L) (.scl (by rw[this];exact .int _))⟩
 .cases e
theorem bT(Y:Gl X "len")(U:X.mg "len" = none)(a:fF X g m (e::es) fl)(Z:f_ (e::es) X.env=(false,eval e X.env)::f_ es X.env:=by rfl)(L:(backTo pos (f_ es X.env)).any (·.1)=false:=by rfl):SE X g m (.Call (.Name "len" p) (e::es) [] pos) (fC fl lenD):=eU ME (i7 (dJ.or Qf Rq) Y U Qe9 a (by decide) (rfl) Z L)
def q9:List D->Option D
|[.lst ds]=>some (.lst ds)
|[.tup ds]=>some (.lst ds)
|_=>none
theorem Pk:Eh K (fun xs H Q=>∃p L,xs=[.ref p]/\(bp K H p L\/cg K H p L)/\∀l,H l=none->Q (.ref l) (aO H l (.lst L))) q9:=by
 intro G H g h d Q U c e q;have fin:∀{L:List V}{b:List D},bJ K G L b->(∀(a:Addr)(f:GH)(Z:Hp),Grow K G H f Z->H a=none->Own K f Z a (.lst b)->Q (.ref a) Z)->∀l,H l=none->Q (.ref l) (aO H l (.lst L)):=fun r q l Y=>q l G _ (Grow.new U Y _) Y ⟨U.isN Y,.lst bV r⟩;unfold q9 at e;split at e
 .cases e;cases c with
 |cons r t=>cases t;obtain⟨a,xs,rfl,s,r⟩:=r.lst U;exact⟨a,xs,rfl,.inl s,fin r q⟩
 .cases e;cases c with
 |cons r t=>cases t;obtain⟨a,xs,rfl,s,r⟩:=r.tup U;exact⟨a,xs,rfl,.inr s,fin r q⟩
 .cases e
theorem wP(Y:Gl X "list")(U:X.mg "list" = none)(a:fF X g m (e::es) fl)(Z:f_ (e::es) X.env=(false,eval e X.env)::f_ es X.env:=by rfl)(L:(backTo pos (f_ es X.env)).any (·.1)=false:=by rfl):SO X g m (.Call (.Name "list" p) (e::es) [] pos) (fC fl q9):=rA Pk (pG Uk Y U rfl a (by decide) (rfl) Z L)
def tupD:List D->Option D
|[.lst ds]=>some (.tup ds)
|[.tup ds]=>some (.tup ds)
|_=>none
theorem Oh:kZ K (fun xs H Q=>∃p U,xs=[.ref p]/\((bp K H p U/\∀l,H l=none->Q (.ref l) (aO H l (.tup U)))\/(cg K H p U/\Q (.ref p) H))) tupD:=by
 intro G H b c d Q L Y e q;unfold tupD at e;split at e
 .cases e;cases Y with
 |cons r t=>cases t;obtain⟨a,xs,rfl,s,r⟩:=r.lst L;exact⟨a,xs,rfl,.inl ⟨s,fun l Z=>q _ _ _ (Grow.newF L Z (.tup (.inl bV) r)) (.ref ga)⟩⟩
 .cases e;cases Y with
 |cons r t=>
   cases t;rcases r with r|⟨a,_,o⟩
   .obtain⟨a,xs,rfl,s,r'⟩:=r.tup L;exact⟨a,xs,rfl,.inr ⟨s,q _ G H (Grow.refl L) r⟩⟩
   .cases o.ob
 .cases e
theorem dZ(Y:Gl X "tuple")(U:X.mg "tuple" = none)(a:fF X g m (e::es) fl)(Z:f_ (e::es) X.env=(false,eval e X.env)::f_ es X.env:=by rfl)(L:(backTo pos (f_ es X.env)).any (·.1)=false:=by rfl):SE X g m (.Call (.Name "tuple" p) (e::es) [] pos) (fC fl tupD):=eU Oh (pG UB Y U rfl a (by decide) (rfl) Z L)
def ixD:D->D->Option D
|.lst ds,.int i=>gK ds i
|.tup ds,.int i=>gK ds i
|.str z,.int i=>if z.length<=sizeLine then(gK z.cps.toList i).map fun c=>.str ⟨#[c]⟩else none
|_,_=>none
theorem D4(r:bJ K G xs ds)(h:gK ds i=some d):∃v,gK xs i=some v/\RG K G v d:=by unfold gK at h ⊢;rw[Paired.length r];cases e:iI ds.length i with
|none=>rw[e]at h;cases h
|some j=>rw[e]at h;exact Paired.get r h
theorem vE:dU K (Dt K) ixD:=by
 intro G H h g k j d Q L Z Y e q;unfold ixD at e;split at e
 .obtain⟨a,xs,rfl,s,r⟩:=Z.lst L;obtain⟨v,b,U⟩:=D4 r e;exact .inl ⟨a,xs,_,v,rfl,Y.int L,s,b,q v G H (Grow.refl L) U⟩
 .obtain⟨a,xs,rfl,s,r⟩:=Z.tup L;obtain⟨v,b,U⟩:=D4 r e;exact .inr (.inl ⟨a,xs,_,v,rfl,Y.int L,s,b,q v G H (Grow.refl L) U⟩)
 .split at e
  .rename_i z i hz;cases f:gK z.cps.toList i with
  |none=>rw[f]at e;cases e
  |some c=>rw[f]at e;cases e;exact .inr (.inr ⟨z,i,c,Z.str L,Y.int L,hz,f,q _ G H (Grow.refl L) (.scl (.str _))⟩)
  .cases e
 .cases e
def aT{α:Type}(xs:List α)(lo hi:Option Int):List α:=(xs.drop (HT.sIx xs.length 0 lo)).take (HT.sIx xs.length xs.length hi-HT.sIx xs.length 0 lo)
theorem oq{xs:List U}{ds:List L}(r:Paired F xs ds)(lo Y:Option Int):Paired F (aT xs lo Y) (aT ds lo Y):=by unfold aT;rw[Paired.length r];exact Paired.tk _ (Paired.dr _ r)
abbrev FP:=am->Res (Option Int)
def tP(X:Cx)(g:GE)(m:List Md)(f:FP):TO:=fun σ H Q=>∃r G,SI X g m r G σ H/\fin (f r) (fun o=>∀G' H',Grow X.K G H G' H'->Q o H') (XW X σ G H)
def lM(X:Cx)(g:GE)(m:List Md)(e:Option Expr)(f:FP):Prop:=PO X e (tP X g m f)
theorem PO.imp{e:Option Expr}(h:PO X e t)(i:∀σ H Q,t' σ H Q->t σ H Q):PO X e t':=fun L s σ H Q I q=>h L s σ H Q I (i σ H Q q)
def V4:D->Option Int
|.int i=>some i
|_=>none
def li(f:FE):FP:=fun r=>(f r).bind fun d=>(dD (V4 d)).bind fun i=>.ok (some i)
theorem d9:lM X g m none fun _=>.ok none:=PO.imp Ov fun U H Q k=>by obtain⟨r,G,L,q⟩:=k;exact q G H (Grow.refl L.gok)
theorem eu(h:SB X g m e f):lM X g m (some e) (li f):=by
 refine PO.imp (Ox h) fun c H Q ⟨r,G,U,q⟩=>⟨r,G,U,bu (bv q) fun d q1 v b a L Y=>?_⟩
 obtain⟨i,e,Z⟩:=cJ (bv q1);cases d with
|int j=>cases e;exact⟨_,Y.int L.ok,Z b a L⟩
|_=>cases e
def kz(d:D)(lo hi:Option Int):Option D:=match d with
|.tup ds=>if HT.sIx ds.length 0 lo=0/\HT.sIx ds.length ds.length hi=ds.length then none else some (.tup (aT ds lo hi))
|.lst ds=>some (.lst (aT ds lo hi))
|_=>none
def j6(fa:FE)(fl fh:FP):FE:=fun r=>(fa r).bind fun d=>(fl r).bind fun lo=>(fh r).bind fun hi=>dD (kz d lo hi)
theorem Gc{R:V->Option Int->Option Int->Hp->Prop}{fl i:FP}{q:D->Prop}(b:SI X g m r G σ H)(h:fin (j6 fa fl i r) q (XW X σ G H))(n:∀d lo Z v a L d',Grow X.K G H a L->RB X.K a L v d->kz d lo Z=some d'->q d'->R v lo Z L):tB X g m fa σ H fun x j=>tP X g m fl σ j fun l L=>tP X g m i σ L fun u c=>R x l u c:=by refine⟨r,G,b,bu (bv h) fun d t v y j U k=>⟨r,y,b.grow U,ic (bv t) U fun lo s a L Y=>⟨r,a,(b.grow U).grow Y,?_⟩⟩⟩;refine ic (bv s) (U.trans Y) fun Z p w c f=>?_;obtain⟨d',e,o⟩:=cJ p;exact n d lo Z v w c d' ((U.trans Y).trans f) ((k.mono Y).mono f) e o
theorem fJ{lo U:Option Expr}{fl j:FP}(o:SB X g m e f)(n:lM X g m lo fl)(l:lM X g m U j):SE X g m (.Subscript e (.Slice lo U none p2) pos) (j6 f fl j):=by refine PE.imp (zH (jJ.or yY Ge) o n l) fun u H Q z=>?_;obtain⟨r,G,k,q⟩:=z;refine Gc k q fun d lo U v y x t w h e i=>?_;cases d with
|tup L=>
  obtain⟨a,b,rfl,s,r⟩:=h.tup w.ok;have Z:(if HT.sIx L.length 0 lo=0/\HT.sIx L.length L.length U=L.length then none else some (D.tup (aT L lo U)))=some t:=e;by_cases Y:HT.sIx L.length 0 lo=0/\HT.sIx L.length L.length U=L.length
  .rw[Q_e Y]at Z;cases Z
  rw[Q_f Y]at Z;cases Z;rw[<-Paired.length r]at Y;refine .inr ⟨a,b,rfl,s,Y,fun p c=>?_⟩;exact i _ _ _ (w.trans (Grow.newF w.ok c (.tup (.inl bV) (oq r lo U)))) (.ref ga)
|lst L=>cases e;obtain⟨a,b,rfl,s,r⟩:=h.lst w.ok;exact .inl ⟨a,b,rfl,s,fun p c=>i _ _ _ (w.trans (Grow.newF w.ok c (.lst (.inl bV) (oq r lo U)))) (.ref ga)⟩
|_=>cases e
theorem Vz{lo L:Option Expr}{fl b:FP}(l:SB X g m e f)(k:lM X g m lo fl)(j:lM X g m L b):SO X g m (.Subscript e (.Slice lo L none p2) pos) (fun r=>(j6 f fl b r).bind fun d=>match d with|.lst ds=>.ok (.lst ds)|_=>.stuck):=by refine PE.imp (zH yY l k j) fun t H Q z=>?_;obtain⟨r,G,h,q⟩:=z;refine Gc h (bv q) fun d lo L v o u n w i e Z=>?_;cases d with
|lst ds=>cases e;obtain⟨a,c,rfl,s,r⟩:=i.lst w.ok;exact⟨a,c,rfl,s,fun p U=>Z p o _ (w.trans (Grow.new w.ok U _)) (w.back U) ⟨w.ok.isN U,.lst bV (oq r lo L)⟩⟩
|tup ds=>
  have Y:(if HT.sIx ds.length 0 lo=0/\HT.sIx ds.length ds.length L=ds.length then none else some _)=some n:=e;split at Y
  .cases Y
  .cases Y;exact Z.elim
|_=>cases e
end
inductive Out where
 |nx (r:am)|rt (d:D)|bk (r:am)|ct (r:am)|exc (x:D) (r:am)|stuck
abbrev FS:=am->Out
def bI(G G':GH):Prop:=∀a d,G a=some d->G' a=some d
theorem bI.refl(G:GH):bI G G:=fun _ _ e=>e
theorem bI.trans(a:bI G U)(b:bI U L):bI G L:=fun x d e=>b x d (a x d e)
def forget(m:List Md)(r:am):am:=È (fun md o=>if md=Md.sh then o else none) m r
def gE(m:List Md):List Md:=m.map fun _=>Md.sh
theorem pL{i:Nat}(h:(forget m r)[i]? = some (some d)):r[i]? = some (some d)/\m[i]? = some .sh:=by unfold forget at h;rw[Qdk]at h;cases U:m[i]? with
|none=>rw[U]at h;cases h
|some Z=>cases Y:r[i]? with
 |none=>rw[U,Y]at h;cases h
 |some o=>
   rw[U,Y]at h;have L:(if Z=Md.sh then o else none)=some d:=K_ h;split at L
   .rename_i hm;subst hm;rw[L];exact⟨rfl,rfl⟩
   .cases L
section
variable{st:L2.St}
theorem SI.forget(s:SI X g m r G st H):SI X g (gE m) (forget m r) G st H where
 gok:=s.gok
 old:=s.old
 ge:=s.ge
 gf:=s.gf
 lm:=by rw[gE,b_];exact s.lm
 lr:=by rw[DL.forget,ş,s.lm,s.lr,Nat.min_self]
 sh:=fun i d h _=>s.sh i d (pL h).1 (pL h).2
 ow:=fun i d h L=>by rw[gE,l_,(pL h).2]at L;cases L
 bw:=fun i d h L=>by rw[gE,l_,(pL h).2]at L;cases L
 dis:=fun i j a d e _ h _ L=>by rw[gE,l_,(pL h).2]at L;cases L
 lk:=fun i o _ L=>by rw[gE,l_]at L;cases q:m[i]? <;> rw[q]at L <;> cases L
theorem SI.set(s:SI X g m r G st H)(i:Nat)(p:RG X.K G v d):SI X g (m.set i .sh) (r.set i (some d)) G (st.set i (some v)) H where
 gok:=s.gok
 old:=s.old
 ge:=s.ge
 gf:=s.gf
 lm:=by simp[s.lm]
 lr:=by simp[s.lr]
 sh:=fun j e h U=>by
  by_cases L:i=j
  .subst L;have Y:i<r.length:=by have:=(h_.mp h).1;simpa using this
   rw[x_ Y]at h;cases h;exact⟨v,by rw[x_ (by rw[<-s.lr];exact Y)],p⟩
  .rw[j_ L]at h U;rw[j_ L];exact s.sh j e h U
 ow:=fun j e h U=>by
  by_cases L:i=j
  .subst L;have Y:i<m.length:=by have:=(h_.mp U).1;simpa using this
   rw[x_ Y]at U;cases U
  .rw[j_ L]at h U;rw[j_ L];exact s.ow j e h U
 bw:=fun j e h U=>by
  by_cases L:i=j
  .subst L;have Y:i<m.length:=by have:=(h_.mp U).1;simpa using this
   rw[x_ Y]at U;cases U
  .rw[j_ L]at h U;rw[j_ L];exact s.bw j e h U
 dis:=fun j k a u t b n f U Z q1 l=>by
  have L:i≠j:=by
   rintro rfl
   have Y:i<m.length:=by have:=(h_.mp U).1;simpa using this
   rw[x_ Y]at U;cases U
  have c:i≠k:=by
   rintro rfl
   have Y:i<m.length:=by have:=(h_.mp f).1;rw[YN,s.lr,<-s.lm]at this;exact this
   rw[x_ Y]at Z;cases Z
  rw[j_ L]at n U q1;rw[j_ c]at f Z l;exact s.dis j k a u t b n f U Z q1 l
 lk:=fun j o q U=>by
  have L:i≠j:=by
   rintro rfl
   have Y:i<m.length:=by have:=(h_.mp U).1;simpa using this
   rw[x_ Y]at U;cases U
  rw[j_ L]at U;have:=s.lk j o q U;exact⟨by rw[j_ L];exact this.1,fun d h=>this.2 d (by rw[j_ L]at h;exact h)⟩
theorem SI.setO(s:SI X g m r G st H)(i:Nat){a:Addr}(u:Own X.K G H a d)(w:g.h0 a=none)(p:∀(j:Nat)(b:Addr)(e:D),r[j]? = some (some e)->m[j]? = some Md.ow->st[j]? = some (some (V.ref b))->b≠a):SI X g (m.set i .ow) (r.set i (some d)) G (st.set i (some (V.ref a))) H where
 gok:=s.gok
 old:=s.old
 ge:=s.ge
 gf:=s.gf
 lm:=by simp[s.lm]
 lr:=by simp[s.lr]
 sh:=fun j e h U=>by
  by_cases L:i=j
  .subst L;have Y:i<m.length:=by have:=(h_.mp U).1;simpa using this
   rw[x_ Y]at U;cases U
  .rw[j_ L]at h U;rw[j_ L];exact s.sh j e h U
 ow:=fun j e h U=>by
  by_cases L:i=j
  .subst L;have Y:i<r.length:=by have:=(h_.mp h).1;simpa using this
   rw[x_ Y]at h;cases h;exact⟨a,by rw[x_ (by rw[<-s.lr];exact Y)],u,w⟩
  .rw[j_ L]at h U;rw[j_ L];exact s.ow j e h U
 bw:=fun j e h U=>by
  by_cases L:i=j
  .subst L;have Y:i<m.length:=by have:=(h_.mp U).1;simpa using this
   rw[x_ Y]at U;cases U
  .rw[j_ L]at h U;rw[j_ L];exact s.bw j e h U
 dis:=fun j k b t q f n l U c q1 Z=>by
  by_cases L:i=j
  .subst L;rw[j_ f]at l c Z;have Y:i<st.length:=by have:=(h_.mp q1).1;simpa using this
   rw[x_ Y]at q1;have e:a=b:=by injection q1 with q1;injection q1 with q1;injection q1
   exact p k b q l c Z e.symm
  .by_cases hik:i=k
   .subst hik;rw[j_ L]at n U q1;have Y:i<st.length:=by have:=(h_.mp Z).1;simpa using this
    rw[x_ Y]at Z;have e:a=b:=by injection Z with Z;injection Z with Z;injection Z
    exact p j b t n U q1 e.symm
   .rw[j_ L]at n U q1;rw[j_ hik]at l c Z;exact s.dis j k b t q f n l U c q1 Z
 lk:=fun j o v U=>by
  have L:i≠j:=by
   rintro rfl
   have Y:i<m.length:=by have:=(h_.mp U).1;simpa using this
   rw[x_ Y]at U;cases U
  rw[j_ L]at U;have:=s.lk j o v U;exact⟨by rw[j_ L];exact this.1,fun d h=>this.2 d (by rw[j_ L]at h;exact h)⟩
theorem SI.other(s:SI X g m r G st H){p:Addr}(l:G p=none)(n:g.h0 p=none)(Y:∀(i:Nat),m[i]?≠some Md.ow)(o:HO):SI X g m r G st (aO H p o) where
 gok:=fun b e h=>(s.gok b e h).mono (by grind) fun U q=>by rw[bN (by grind)];exact q
 old:=fun b U h=>by rw[bN (by grind)];exact s.old b U h
 ge:=s.ge
 gf:=s.gf
 lm:=s.lm
 lr:=s.lr
 sh:=s.sh
 ow:=fun i d _ h=>Q_g h (Y i)
 bw:=fun i d k f=>by
  obtain⟨v,c,L⟩:=s.bw i d k f;refine⟨v,c,?_⟩;rcases L with L|⟨a,rfl,L,Z⟩
  .exact .inl L
  .have ha:a≠p:=by grind
   exact .inr ⟨a,rfl,⟨L.un,L.ob.mono (by grind) fun U z=>by rw[bN ha];exact z⟩,Z⟩
 dis:=fun i j a d e _ _ _ h=>Q_g h (Y i)
 lk:=s.lk
theorem SI.less(s:SI X g m r G st H)(U:r'.length=r.length)(h:∀(i:Nat) d,r'[i]? = some (some d)->r[i]? = some (some d)):SI X g m r' G st H:=⟨s.gok,s.old,s.ge,s.gf,s.lm,U.trans s.lr,fun i d a b=>s.sh i d (h i d a) b,fun i d a b=>s.ow i d (h i d a) b,fun i d a b=>s.bw i d (h i d a) b,fun i j a d e n p q x y=>s.dis i j a d e n (h i d p) (h j e q) x y,fun i o Y L=>by have:=s.lk i o Y L;exact⟨this.1,fun d Z=>this.2 d (h i d Z)⟩⟩
theorem SI.held(s:SI X g m r G st H){j:Nat}{b:Addr}{e:D}(h:r[j]? = some (some e))(U:m[j]? = some .ow)(hs:st[j]? = some (some (V.ref b))):H b≠none:=by
 obtain⟨a,L,Y,_⟩:=s.ow j e h U;rw[hs]at L;injection L with L;injection L with L;injection L with L
 rw[L];exact Y.ob.isS
theorem SI.new(s:SI X g m r G st H){a:Addr}(L:H a=none):g.h0 a=none:=by cases q:g.h0 a with
|none=>rfl
|some o=>rw[s.old _ _ q]at L;cases L
theorem SI.setN(s:SI X g m r G st H)(w:Grow X.K G H Y U)(i:Nat){a:Addr}(L:H a=none)(Z:Own X.K Y U a d):SI X g (m.set i .ow) (r.set i (some d)) Y (st.set i (some (V.ref a))) U:=by
 refine(s.grow w).setO i Z ?_ fun j b e h f c=>?_
 .cases q:g.h0 a with
 |none=>rfl
 |some o=>rw[s.old _ _ q]at L;cases L
 .rintro rfl
  exact s.held h f c L
theorem SI.mut(s:SI X g m r G st H)(l:m[i]? = some .ow)(n:r[i]? = some (some d)):∃a,st[i]? = some (some (V.ref a))/\Own X.K G H a d/\∀(p:HO)(d':D),OwnO X.K G (aO H a p) a d'->SI X g m (r.set i (some d')) G st (aO H a p):=by
 obtain⟨a,y,x,w⟩:=s.ow i d n l;have I:i<r.length:=(h_.mp n).1;refine⟨a,y,x,fun p d' F=>?_⟩;have U:∀(j:Nat)(b:Addr)(e:D),j≠i->r[j]? = some (some e)->m[j]? = some .ow->st[j]? = some (some (V.ref b))->b≠a:=fun j b e u q1 c f z=>by subst z;exact s.dis i j b d e (ZM u) n q1 l c y f
 refine⟨fun b e h=>?_,fun b o h=>?_,s.ge,s.gf,s.lm,by simp[s.lr],?_,?_,?_,?_,fun j o u Z=>?_⟩
 .have hb:b≠a:=by rintro rfl;rw[x.un]at h;cases h
  exact(s.gok b e h).mono (fun _ _ z=>z) fun o q=>by rw[bN hb];exact q
 .have hb:b≠a:=by rintro rfl;rw[w]at h;cases h
  rw[bN hb];exact s.old b o h
 .intro j e h Z;have L:i≠j:=by rintro rfl;rw[l]at Z;cases Z
  rw[j_ L]at h;exact s.sh j e h Z
 .intro j e h Z;by_cases L:i=j
  .subst L;rw[x_ I]at h;cases h;exact⟨a,y,⟨x.un,F⟩,w⟩
  .rw[j_ L]at h;obtain⟨b,q1,c,f⟩:=s.ow j e h Z;have hb:=U j b e (ZM L) h Z q1;exact⟨b,q1,⟨c.un,c.ob.mono (fun _ _ z=>z) fun o z=>by rw[bN hb];exact z⟩,f⟩
 .intro j e h Z;have L:i≠j:=by rintro rfl;rw[l]at Z;cases Z
  rw[j_ L]at h;obtain⟨v,q1,c⟩:=s.bw j e h Z;refine⟨v,q1,?_⟩;rcases c with c|⟨b,rfl,c,f⟩
  .exact .inl c
  .have hb:b≠a:=by rintro rfl;exact f w
   exact .inr ⟨b,rfl,⟨c.un,c.ob.mono (fun _ _ z=>z) fun o z=>by rw[bN hb];exact z⟩,f⟩
 .have bound:∀(j:Nat) e,(r.set i (some d'))[j]? = some (some e)->∃N,r[j]? = some (some N):=fun j e h=>by
   by_cases L:i=j
   .subst L;exact⟨d,n⟩
   .rw[j_ L]at h;exact⟨e,h⟩
  intro j k b P O t q1 c E C B A;obtain⟨M,q1⟩:=bound j P q1;obtain⟨J,c⟩:=bound k O c;exact s.dis j k b M J t q1 c E C B A
 .have L:i≠j:=by rintro rfl;rw[l]at Z;cases Z
  have:=s.lk j o u Z;exact⟨this.1,fun Y h=>this.2 Y (by rw[j_ L]at h;exact h)⟩
end
def RV(ro:Bool)(K:W.Frag)(H0:Hp)(G:GH)(H:Hp)(v:V)(d:D):Prop:=match ro with
|false=>RG K G v d
|true=>(∃a,v=.ref a/\H0 a=none/\Own K G H a d)\/(d=.non/\v=.non)
def cH(X:Cx)(g:GE)(ro:Bool)(m' mb:List Md)(G:GH)(D:Ends):Out->Prop
|.nx r'=>∀σ' G' H',bI G G'->SI X g m' r' G' σ' H'->D.nx σ' H'
|.rt d=>∀v G' H',Grow X.K g.gh g.h0 G' H'->RV ro X.K g.h0 G' H' v d->D.rt v H'
|.bk r'=>∀σ' G' H',bI G G'->SI X g mb r' G' σ' H'->D.bk σ' H'
|.ct r'=>∀σ' G' H',bI G G'->SI X g mb r' G' σ' H'->D.ct σ' H'
|.exc x r'=>∀pz e s' σ' G' H',bI G G'->SI X g (gE m') r' G' σ' H'->Inv X pz σ' H' s'->K7 X σ' G' H' e x s'->X.xe e s'
|.stuck=>False
def tS(X:Cx)(g:GE)(ro:Bool)(m m' mb:List Md)(f:FS):TS:=fun D σ H=>∃r G,SI X g m r G σ H/\cH X g ro m' mb G D (f r)
def SS(X:Cx)(g:GE)(ro:Bool)(mb m:List Md)(st:Stmt)(f:FS)(m':List Md):Prop:=m'.length=m.length/\PS X st (tS X g ro m m' mb f)
def fS(X:Cx)(g:GE)(ro:Bool)(mb m:List Md)(st:List Stmt)(f:FS)(m':List Md):Prop:=m'.length=m.length/\dI X st (tS X g ro m m' mb f)
theorem tq(h:m'.length=m.length):gE m'=gE m:=by unfold gE;rw[ť,ť,h]
theorem cH.x{m m' a:List Md}{D:Ends}{σ:L2.St}{H:Hp}{x:DL.D}(h:cH X g Y m' a G D (.exc x (forget m r)))(L:SI X g m r G σ H)(b:m'.length=m.length):XW X σ G H x:=fun Z e U f d w I c=>h Z e U σ f d w.ge (by rw[tq b];exact(L.grow w).forget) I c
variable{ro:Bool}{m' m1 mb:List Md}{tg:Expr}{pos':Pos}{sts:List Stmt}{s1:FS}
section
variable{st:Stmt}{sts':List Stmt}{s2:FS}
theorem cH.gle{G b:GH}{D:Ends}(h:cH X g ro m' mb G D o)(w:bI G b):cH X g ro m' mb b D o:=by cases o with
|nx a=>exact fun L Y U q Z=>h L Y U (w.trans q) Z
|rt d=>exact h
|bk a=>exact fun L Y U q Z=>h L Y U (w.trans q) Z
|ct a=>exact fun L Y U q Z=>h L Y U (w.trans q) Z
|exc x a=>exact fun f e c L Y U q=>h f e c L Y U (w.trans q)
|stuck=>exact h
def al(s1 s2:FS):FS:=fun r=>match s1 r with
|.nx r'=>s2 r'
|o=>o
def be:FS:=fun r=>.nx r
theorem aq:fS X g ro mb m [] be m:=⟨rfl,dI.imp GJ fun D L H k=>by obtain⟨r,G,U,q⟩:=k;exact q L G H (bI.refl G) U⟩
theorem ai(b:SS X g ro mb m st s1 m1)(Z:fS X g ro mb m1 sts s2 m'):fS X g ro mb m (st::sts) (al s1 s2) m':=by refine⟨Z.1.trans b.1,dI.imp (zx b.2 Z.2) fun D j H ⟨r,G,f,q⟩=>⟨r,G,f,?_⟩⟩;unfold al at q;cases e:s1 r with
|nx Y=>rw[e]at q;exact fun U a c w L=>⟨Y,a,L,cH.gle q w⟩
|rt d=>rw[e]at q;exact q
|bk Y=>rw[e]at q;exact q
|ct Y=>rw[e]at q;exact q
|exc x Y=>rw[e]at q;exact fun i e h U a c w L=>q i e h U a c w (by rw[tq Z.1];exact L)
|stuck=>rw[e]at q;exact q
theorem OK:SS X g ro mb m st (fun _=>.stuck) m:=⟨rfl,PS.imp QO fun D L H k=>by obtain⟨r,G,U,q⟩:=k;exact q⟩
theorem Qw:fS X g ro mb m sts (fun _=>.stuck) m:=⟨rfl,dI.imp Iy fun D L H k=>by obtain⟨r,G,U,q⟩:=k;exact q⟩
theorem lg(i:Nat)(d:m[i]? = some .ow)(h:SS X g ro mb (m.set i .sh) st s1 m'):SS X g ro mb m st s1 m':=by
 refine⟨h.1.trans (by simp),fun b s Z H D I k=>?_⟩;obtain⟨r,G,c,q⟩:=k;rcases c.frz i d with⟨Y,U,L⟩|⟨a,z⟩
 .exact h.2 b s Z H D I ⟨r,Y,L,cH.gle q U⟩
 .obtain⟨ob,I2⟩:=Inv.fast I a;obtain⟨Y,U,L⟩:=z ob;exact h.2 b s Z _ D I2 ⟨r,Y,L,cH.gle q U⟩
def iG{α:Type}(m:List Md)(r:am)(x:Res α)(k:α->Out):Out:=match x with
|.ok a=>k a
|.exc e=>.exc e (forget m r)
|.stuck=>.stuck
@[simp] theorem onE_ok(m:List Md)(r:am)(a:L)(k:L->Out):iG m r (.ok a) k=k a:=rfl
theorem fY{k:L->Out}{D:Ends}{σ:L2.St}{H:Hp}(U:SI X g m r G σ H)(Y:m'.length=m.length)(h:cH X g ro m' mb G D (iG m r x k)):fin x (fun a=>cH X g ro m' mb G D (k a)) (XW X σ G H):=by cases x with
|ok a=>exact h
|exc e=>exact cH.x h U Y
|stuck=>exact h
def aY(m:List Md)(i:Nat)(f:FE):FS:=fun r=>iG m r (f r) fun d=>.nx (r.set i (some d))
theorem Lm(i:Nat)(hN:X.N.Nodup)(a:X.N[i]? = some x)(Z:je X.env.scope x)(c:SE X g m e f)(hs:ï e (some (.Name x pos')) pos.line X.env=pure false:=by rfl)(b:X.fn x=true\/X.env.scope.names.lookup x=some .local:=by first|exact .inl rfl|exact .inr rfl|assumption):SS X g ro mb m (.Assign [.Name x pos'] e pos) (aY m i f) (m.set i .sh):=by
 have U:(m.set i .sh).length=m.length:=by simp
 refine⟨U,PS.imp (wS hN a Z c hs b) fun D k H ⟨r,G,L,q⟩=>⟨r,G,L,?_⟩⟩;exact bu (fY L U q) fun d q v j h w Y=>q _ j h w.ge ((L.grow w).set i Y)
theorem gF(i:Nat)(hN:X.N.Nodup)(c:X.N[i]? = some x)(Y:je X.env.scope x)(j:SO X g m e f)(hs:ï e (some (.Name x pos')) pos.line X.env=pure false:=by rfl)(h:X.fn x=true\/X.env.scope.names.lookup x=some .local:=by first|exact .inl rfl|exact .inr rfl|assumption):SS X g ro mb m (.Assign [.Name x pos'] e pos) (aY m i f) (m.set i .ow):=by
 have U:(m.set i .ow).length=m.length:=by simp
 refine⟨U,PS.imp (wS hN c Y j hs h) fun D n H ⟨r,G,L,q⟩=>⟨r,G,L,?_⟩⟩;exact bu (fY L U q) fun d q a l k w b Z=>q _ l k w.ge (L.setN w i b Z)
def bZ(m:List Md)(f:FE):FS:=fun r=>iG m r (f r) fun d=>.rt d
theorem bc(Y:SE X g m e f):SS X g false mb m (.Return (some e) pos) (bZ m f) m:=⟨rfl,PS.imp (oM Y) fun D b H k=>by obtain⟨r,G,L,q⟩:=k;exact ⟨r,G,L,bu (fY L rfl q) fun d q v a Z w U=>q v a Z (L.grow w).grown U⟩⟩
theorem MU(Z:SO X g m e f):SS X g true mb m (.Return (some e) pos) (bZ m f) m:=⟨rfl,PS.imp (oM Z) fun D h H k=>by obtain⟨r,G,L,q⟩:=k;exact ⟨r,G,L,bu (fY L rfl q) fun d q a c b w Y U=>q _ c b (L.grow w).grown (.inl ⟨a,rfl,L.new Y,U⟩)⟩⟩
theorem MV(i:Nat)(Z:m[i]? = some .ow)(hN:X.N[i]? = some x)(Y:ik X.env.scope x)(b:(x==("__debug__" : Str))=false:=by decide)(L:(x==("__classdict__" : Str))=false:=by decide):SS X g true mb m (.Return (some (.Name x pos')) pos) (bZ m fun r=>bh r i) m:=by refine⟨rfl,PS.imp (oM (lq hN Y b L)) fun D j H k=>?_⟩;obtain⟨r,G,U,q⟩:=k;obtain⟨d,e,q⟩:=sD (fY U rfl q);obtain⟨a,h,f,c⟩:=U.ow i d e Z;exact⟨_,h,q _ G H U.grown (.inl ⟨a,rfl,c,f⟩)⟩
theorem Ic{j}:SS X g true mb m (.Return (some (.Constant .none j pos')) pos) (fun _=>.rt .non) m:=⟨rfl,PS.imp (oM Fj) fun D U H k=>by obtain⟨r,G,L,q⟩:=k;exact q _ G H L.grown (.inr ⟨rfl,rfl⟩)⟩
def dQ(m:List Md)(p:FQ)(s1 s2:FS):FS:=fun r=>iG m r (p r) fun c=>if c=true then s1 r else s2 r
theorem aG(Z:SQ X g m c p)(U:fS X g ro mb m sts s1 m')(a:fS X g ro mb m sts' s2 m'):SS X g ro mb m (.If c sts sts' pos) (dQ m p s1 s2) m':=by refine⟨U.1,PS.imp (LS Z U.2 a.2) fun D b H ⟨r,G,L,q⟩=>⟨r,G,L,bu (fY L U.1 q) fun c q Y d w=>?_⟩⟩;cases c with
|true=>exact⟨r,Y,L.grow w,cH.gle q w.ge⟩
|false=>exact⟨r,Y,L.grow w,cH.gle q w.ge⟩
theorem Jl(i:Nat)(h:fS X g ro mb m sts s1 m')(A:m'[i]? = some .ow):fS X g ro mb m sts s1 (m'.set i .sh):=by
 refine⟨by simp[h.1],fun j s v H D I ⟨r,G,y,q⟩=>?_⟩;refine aW (h.2 j s v H ⟨fun U Y=>D.nx U Y\/∃a,∀b,D.nx U (fz Y a b),D.rt,D.bk,D.ct⟩ I ⟨r,G,y,?_⟩) fun f n p=>?_
 .cases e:s1 r with
 |nx c=>
   rw[e]at q;intro U t Y w Z;rcases Z.frz i A with⟨l,k,L⟩|⟨a,z⟩
   .exact .inl (q U l Y (w.trans k) L)
   .refine .inr ⟨a,fun b=>?_⟩;obtain⟨l,k,L⟩:=z b;exact q U l _ (w.trans k) L
 |rt d=>rw[e]at q;exact q
 |bk c=>rw[e]at q;exact q
 |ct c=>rw[e]at q;exact q
 |exc x c=>rw[e]at q;exact fun j e n U t Y w Z=>q j e n U t Y w (by rw[tq (m:=m') (by simp)];exact Z)
 |stuck=>rw[e]at q;exact q
 .cases f with
 |next=>
   obtain⟨U,Y,o,z|⟨a,z⟩⟩:=p
   .exact⟨U,Y,o,z⟩
   .obtain⟨b,I2⟩:=Inv.fast o a;exact⟨U,_,I2,z b⟩
 |brk=>exact p
 |cont=>exact p
 |ret u=>exact p
end
abbrev FT:=D->am->Option am
abbrev j9:=List D->am->Option am
def tG(X:Cx)(g:GE)(m m':List Md)(ft:FT):TG:=fun v σ H Q=>∃r G d,SI X g m r G σ H/\RG X.K G v d/\∃r',ft d r=some r'/\∀σ',SI X g m' r' G σ' H->Q σ' H
def VX(X:Cx)(g:GE)(m m':List Md)(ft:j9):j8:=fun vs σ H Q=>∃r G ds,SI X g m r G σ H/\bJ X.K G vs ds/\∃r',ft ds r=some r'/\∀σ',SI X g m' r' G σ' H->Q σ' H
theorem PG.imp(h:PG X e t)(i:∀v σ H Q,t' v σ H Q->t v σ H Q):PG X e t':=fun L s σ H v u Q I r q=>h L s σ H v u Q I r (i v σ H Q q)
theorem jM.imp{e:List Expr}(h:jM X e t)(i:∀v σ H Q,t' v σ H Q->t v σ H Q):jM X e t':=fun L s σ H v u Q I r q=>h L s σ H v u Q I r (i v σ H Q q)
def SG(X:Cx)(g:GE)(m:List Md)(tg:Expr)(ft:FT)(m':List Md):Prop:=m'.length=m.length/\PG X tg (tG X g m m' ft)
structure SGs(X:Cx)(g:GE)(m:List Md)(ts:List Expr)(n:Nat)(ft:j9)(m':List Md):Prop where
 ml:m'.length=m.length
 ln:∀ds r r',ft ds r=some r'->ds.length=n
 pg:jM X ts (VX X g m m' ft)
def aw(i:Nat):FT:=fun d r=>some (r.set i (some d))
def cE(ft:j9):FT:=fun d r=>match d with
|.tup ds=>ft ds r
|.lst ds=>ft ds r
|_=>none
def cD:j9:=fun ds r=>match ds with
|[]=>some r
|_=>none
def ba(ft:FT)(fts:j9):j9:=fun ds r=>match ds with
|[]=>none
|d::ds=>(ft d r).bind fun r'=>fts ds r'
variable{ft:FT}
section
variable{ts:List Expr}{fts:j9}{n:Nat}
theorem MG(i:Nat)(hN:X.N.Nodup)(Z:X.N[i]? = some x)(Y:je X.env.scope x)(a:X.fn x=true\/X.env.scope.names.lookup x=some .local:=by first|exact .inl rfl|exact .inr rfl|assumption):SG X g m (.Name x pos) (aw i) (m.set i .sh):=⟨by simp,PG.imp (Os hN Z Y a) fun v b H Q z=>by obtain⟨r,G,d,L,U,c,e,k⟩:=z;cases e;exact k _ (L.set i U)⟩
theorem hW:SGs X g m [] 0 cD m:=by
 refine⟨rfl,fun L r a e=>?_,jM.imp Ot fun v U H Q ⟨r,G,L,Y,Z,a,e,k⟩=>?_⟩
 .cases L with
 |nil=>rfl
 |cons _ _=>cases e
 .cases Z with
 |nil=>cases e;exact⟨rfl,k U Y⟩
 |cons _ _=>cases e
theorem cV(f:SG X g m tg ft m1)(c:SGs X g m1 ts n fts m')(hs:(Zz (tg::ts) X.env).map (·.2)=ý tg X.env::(Zz ts X.env).map (·.2):=by rfl):SGs X g m (tg::ts) (n+1) (ba ft fts) m':=by
 refine⟨c.ml.trans f.1,fun Y r L e=>?_,jM.imp (QL f.2 c.pg hs) fun v l H Q ⟨r,G,Y,i,b,L,e,k⟩=>?_⟩
 .cases Y with
 |nil=>cases e
 |cons d Y=>have U:((ft d r).bind fun L=>fts Y L)=some L:=e;cases q:ft d r with
  |none=>rw[q]at U;cases U
  |some Z=>rw[q]at U;have:=c.ln Y Z L U;simp[this]
 .cases b with
 |nil=>cases e
 |@cons p d o Y b j=>have U:((ft d r).bind fun L=>fts Y L)=some L:=e;cases q:ft d r with
  |none=>rw[q]at U;cases U
  |some Z=>rw[q]at U;exact⟨_,_,rfl,r,G,d,i,b,Z,q,fun h a=>⟨Z,G,Y,a,j,L,U,k⟩⟩
theorem Nz(q:X.calm=true)(h:jM X ts t)(m:(Zz ts X.env).length=n)(L:(Zz ts X.env).findIdx? (·.1)=none):PG X (.Tuple ts k pos) (fun v σ H Q=>∃a xs,v=.ref a/\bp X.K H a xs/\xs.length=n/\t xs σ H Q):=by intro c s σ H v u Q I r Y;obtain⟨a,xs,x,l,p,Y⟩:=Y;subst x;cases r;obtain⟨U,Z,⟨o,d,i,g,z,f⟩,A⟩:=I.list l;rw[PyProof.Rows.assign_Tuple];refine Q_a (ĸ ?_);unfold unpack;rw[L,show(Zz ts X.env).length=U.toArray.size by simp[m,<-p,Z.length]];refine Q_a (YH (W.kun_itemsOf (I.ok.hd q) ⟨o,i,g,d,f⟩ fun w j=>?_));have y:Inv X c σ H { s with heap:=w }:=I.kept (t':=s.toks) fun b o e=>j b o (z_ (o_ e)) e;exact h c _ σ H xs _ Q y (by simpa using Z) Y
theorem PG.or(h:PG X e t)(h':PG X e t'):PG X e (fun v σ H Q=>t v σ H Q\/t' v σ H Q):=fun L s σ H v u Q I r q=>q.elim (h L s σ H v u Q I r) (h' L s σ H v u Q I r)
theorem hX{k:Nat}(j:X.calm=true)(h:SGs X g m ts n fts m')(i:(Zz ts X.env).length=n:=by rfl)(L:(Zz ts X.env).findIdx? (·.1)=none:=by rfl):SG X g m (.Tuple ts k pos) (cE fts) m':=by refine⟨h.ml,PG.imp (PG.or (Ny j h.pg i L) (Nz j h.pg i L)) fun v l H Q z=>?_⟩;obtain⟨r,G,d,Z,f,b,e,k⟩:=z;cases d with
|tup Y=>obtain⟨a,c,rfl,s,U⟩:=f.tup Z.gok;exact .inl ⟨a,c,rfl,s,(Paired.length U).trans (h.ln Y r b e),r,G,Y,Z,U,b,e,k⟩
|lst Y=>obtain⟨a,c,rfl,s,U⟩:=f.lst Z.gok;exact .inr ⟨a,c,rfl,s,(Paired.length U).trans (h.ln Y r b e),r,G,Y,Z,U,b,e,k⟩
|_=>cases e
end
structure Yields(K:W.Frag)(J:It)(ds:List D)(G0:GH):Prop where
 go:∀G H (i:Nat),bI G0 G->bi K G H->i<ds.length->J.go i H
 yld:∀G H (i:Nat) x H' d,bI G0 G->bi K G H->J.yld i H x H'->ds[i]? = some d->∃G',Grow K G H G' H'/\RG K G' x d
 stop:∀G H,bI G0 G->bi K G H->J.stop ds.length H
abbrev FI:=am->Res (List D)
def tI(X:Cx)(g:GE)(m:List Md)(f:FI):TI:=fun σ H R=>∃r G,SI X g m r G σ H/\fin (f r) (fun ds=>∀J G' H',Grow X.K G H G' H'->Yields X.K J ds G'->R J H') (XW X σ G H)
def gj(X:Cx)(g:GE)(m:List Md)(tg iter:Expr)(f:FI):Prop:=PI X tg iter (tI X g m f)
theorem PI.imp(h:PI X L e t)(i:∀σ H Q,t' σ H Q->t σ H Q):PI X L e t':=fun U s σ H R I q=>h U s σ H R I (i σ H R q)
theorem yN{a:Addr}(f:RG K Z (.ref a) (.lst ds)):Yields K (qR K a) ds Z:=by
 have Y:∀G H,bI Z G->bi K G H->∃L,bp K H a L/\bJ K G L ds:=fun G H w U=>by obtain⟨b,L,e,s,r⟩:=(f.mono w).lst U;cases e;exact⟨L,s,r⟩
 refine⟨fun G H i w U j=>?_,fun G H i x k d w U y e=>?_,fun G H w U=>?_⟩
 .obtain⟨L,s,r⟩:=Y G H w U;have h:=Paired.length r;exact⟨L,L[i],s,g_ (by omega)⟩
 .obtain⟨L,s,r⟩:=Y G H w U;obtain⟨rfl,y⟩:=y;obtain⟨v,g,c⟩:=Paired.get r e;have:=y L s;rw[g]at this;cases this;exact⟨G,Grow.refl U,c⟩
 .obtain⟨L,s,r⟩:=Y G H w U;exact⟨L,s,Ĉ (Paired.length r)⟩
theorem xG{a:Addr}(f:RG K Z (.ref a) (.tup ds)):Yields K (DY K a) ds Z:=by
 have Y:∀G H,bI Z G->bi K G H->∃L,cg K H a L/\bJ K G L ds:=fun G H w U=>by obtain⟨b,L,e,s,r⟩:=(f.mono w).tup U;cases e;exact⟨L,s,r⟩
 refine⟨fun G H i w U j=>?_,fun G H i x k d w U y e=>?_,fun G H w U=>?_⟩
 .obtain⟨L,s,r⟩:=Y G H w U;have h:=Paired.length r;exact⟨L,L[i],s,g_ (by omega)⟩
 .obtain⟨L,s,r⟩:=Y G H w U;obtain⟨rfl,y⟩:=y;obtain⟨v,g,c⟩:=Paired.get r e;have:=y L s;rw[g]at this;cases this;exact⟨G,Grow.refl U,c⟩
 .obtain⟨L,s,r⟩:=Y G H w U;exact⟨L,s,Ĉ (Paired.length r)⟩
def dO(lo:Int)(n:Nat):List D:=(d_ n).map fun(i:Nat)=>D.int (lo+(i:Int))
theorem NX{lo:Int}:Yields K (uU lo n) (dO lo n) Z:=by
 have U:(dO lo n).length=n:=by simp[dO]
 refine⟨fun G H i w Y L=>(by rw[U]at L;exact L),fun G H i x a d w Y y e=>?_,fun G H w Y=>(by rw[U];exact q_ _)⟩;obtain⟨rfl,rfl⟩:=y;have L:i<n:=by have:=(h_.mp e).1;rw[U]at this;exact this
 unfold dO at e;rw[l_,Y_ L]at e;cases e;exact⟨G,Grow.refl Y,.scl (.int _)⟩
def bQ:D->Option (List D)
|.lst ds=>some ds
|.tup ds=>some ds
|_=>none
variable{iter:Expr}
def aV(k:D->Option (List D))(f:FE):FI:=fun r=>(f r).bind fun d=>dD (k d)
theorem wQ(k:PE X l tl):PI X tg l (fun σ H R=>tl σ H fun x U=>(∃a,x=.ref a/\(∃xs,bp X.K U a xs)/\R (qR X.K a) U)\/∃a,x=.ref a/\(∃xs,cg X.K U a xs)/\R (DY X.K a) U):=by
 intro i s σ H R I h;refine aW (k i s σ H _ I h) fun v Y z=>?_;obtain⟨x,U,L,f,q1⟩:=z;rcases q1 with⟨a,e,⟨xs,c⟩,q⟩|⟨a,e,⟨xs,c⟩,q⟩
 .subst e;cases f;obtain⟨Z,g,p,j⟩:=L.list c;refine Þ p.isList ?_;refine⟨Y.heap.objs.size,[Y.heap.objs.size],_,_,U,rfl,L.kept fun b o e=>a_ _ e,Sa a _,⟨_,i_ _ rfl,rfl,rfl⟩,fun b d=>?_,q⟩;have e:=by simpa using d
  subst e;exact L.fpOk (q_ _) (L.hok.fresh (q_ _))
 .subst e;cases f;obtain⟨Z,g,p,j⟩:=L.tuple c;refine ZK (p) ?_;refine⟨Y.heap.objs.size,[Y.heap.objs.size],_,_,U,rfl,L.kept fun b o e=>a_ _ e,SU a _,⟨_,i_ _ rfl,rfl,rfl⟩,fun b d=>?_,q⟩;have e:=by simpa using d
  subst e;exact L.fpOk (q_ _) (L.hok.fresh (q_ _))
theorem qY(h:SE X g m e f):gj X g m tg e (aV bQ f):=by
 refine PI.imp (wQ h) fun j H R ⟨r,G,c,q⟩=>⟨r,G,c,bu (bv q) fun d q v b Z w L=>?_⟩
 obtain⟨k,e,q⟩:=cJ q;cases d with
|lst Y=>obtain⟨a,U,rfl,s,i⟩:=L.lst w.ok;exact .inl ⟨a,rfl,⟨U,s⟩,q _ b Z w (yN L)⟩
|tup Y=>obtain⟨a,U,rfl,s,i⟩:=L.tup w.ok;exact .inr ⟨a,rfl,⟨U,s⟩,q _ b Z w (xG L)⟩
|_=>cases e
structure YieldsC(K:W.Frag)(J:It)(ds:List D)(G0:GH)(H0:Hp):Prop where
 go:∀G H (i:Nat),Grow K G0 H0 G H->i<ds.length->J.go i H
 yld:∀G H (i:Nat) x H' d,Grow K G0 H0 G H->J.yld i H x H'->ds[i]? = some d->∃G',Grow K G H G' H'/\RG K G' x d
 stop:∀G H,Grow K G0 H0 G H->J.stop ds.length H
theorem Yields.toC(y:Yields K J ds L):YieldsC K J ds L Y:=⟨fun G H i w U=>y.go G H i w.ge w.ok U,fun G H i x Z d w q e=>y.yld G H i x Z d w.ge w.ok q e,fun G H w=>y.stop G H w.ge w.ok⟩
def VV(X:Cx)(g:GE)(m:List Md)(f:FI):TI:=fun σ H R=>∃r G,SI X g m r G σ H/\fin (f r) (fun ds=>∀J G' H',Grow X.K G H G' H'->YieldsC X.K J ds G' H'->R J H') (XW X σ G H)
def fg(X:Cx)(g:GE)(m:List Md)(tg iter:Expr)(f:FI):Prop:=PI X tg iter (VV X g m f)
theorem gj.toC(h:gj X g m tg iter fi):fg X g m tg iter fi:=PI.imp h fun Z H R z=>by obtain⟨r,G,L,q⟩:=z;exact ⟨r,G,L,bu q fun a k J Y U w y=>k J Y U w y.toC⟩
theorem NW{a:Addr}(o:Own K Z Y a (.lst ds)):YieldsC K (qR K a) ds Z Y:=by
 have U:∀G H,Grow K Z Y G H->∃L,bp K H a L/\bJ K G L ds:=fun G H w=>by cases(o.mono w).ob with
 |lst r s=>exact⟨_,bp.of r,s⟩
 refine⟨fun G H i w g=>?_,fun G H i x h d w y e=>?_,fun G H w=>?_⟩
 .obtain⟨L,s,r⟩:=U G H w;have f:=Paired.length r;exact⟨L,L[i],s,by simp_all⟩
 .obtain⟨L,s,r⟩:=U G H w;obtain⟨rfl,y⟩:=y;obtain⟨v,c,b⟩:=Paired.get r e;have:=y L s;rw[c]at this;cases this;exact⟨G,Grow.refl w.ok,b⟩
 .obtain⟨L,s,r⟩:=U G H w;exact⟨L,s,Ĉ (Paired.length r)⟩
theorem cW(h:SB X g m e f):fg X g m tg e (aV bQ f):=by
 refine PI.imp (wQ h) fun c H R ⟨r,G,b,q⟩=>⟨r,G,b,bu (bv q) fun d q v Z Y w L=>?_⟩
 obtain⟨i,e,q⟩:=cJ q;cases d with
|lst U=>
  rcases L with L|⟨a,rfl,o⟩
  .obtain⟨a,xs,rfl,s,rs⟩:=L.lst w.ok;exact .inl ⟨a,rfl,⟨xs,s⟩,q _ Z Y w (yN L).toC⟩
  .cases o.ob with
  |lst r s=>exact .inl ⟨a,rfl,⟨_,bp.of r⟩,q _ Z Y w (NW o)⟩
|tup U=>
  rcases L with L|⟨a,rfl,o⟩
  .obtain⟨a,xs,rfl,s,rs⟩:=L.tup w.ok;exact .inr ⟨a,rfl,⟨xs,s⟩,q _ Z Y w (xG L).toC⟩
  .cases o.ob
|_=>cases e
def cR:List D->Option (List D)
|[.int j]=>if-(2^62)<=j/\j<2^62 then some (dO 0 j.toNat)else none
|_=>none
def cZ(k:List D->Option (List D))(fl:am->Res (List D)):FI:=fun r=>(fl r).bind fun ds=>dD (k ds)
theorem eR(c:Gl X "range")(b:X.mg "range" = none)(d:fF X g m [a] fl)(hs:f_ [a] X.env=[(false,eval a X.env)]:=by rfl):gj X g m tg (.Call (.Name "range" Z) [a] [] pos) (cZ cR fl):=by
 refine PI.imp (RP c b d hs) fun i H R ⟨r,G,L,q⟩=>⟨r,G,L,bu (bv q) fun n q l h f w U=>?_⟩
 obtain⟨k,e,q⟩:=cJ q;unfold cR at e;split at e
 .split at e
  .rename_i j hj;cases e;cases U with
  |cons Y t=>cases t;exact⟨j,by rw[Y.int w.ok],hj.1,hj.2,q _ h f w NX⟩
  .cases e
 .cases e
def aZ(ft:FT)(body:FS):List D->FS
|[],r=>.nx r
|d::ds,r=>match ft d r with
 |none=>.stuck
 |some r1=>match body r1 with
  |.nx r'=>aZ ft body ds r'
  |.ct r'=>aZ ft body ds r'
  |.bk r'=>.nx r'
  |o=>o
def iU(m:List Md)(fi:FI)(ft:FT)(body:FS):FS:=fun r=>iG m r (fi r) fun ds=>aZ ft body ds r
theorem fI(hp:ā (u_ X.prog X.w) X.A X.env X.xe)(hc:X.calm=true)(P:gj X g m tg iter fi)(hg:SG X g m tg ft m)(hb:fS X g ro m m sts s1 m)(hs:∀x,Zb iter X.env x=pure x:=by intro _;rfl):SS X g ro mb m (.For tg iter sts [] pos) (iU m fi ft s1) m:=by
 refine⟨rfl,PS.imp (wR hp hc P hg.2 hb.2 hs) fun D M H ⟨r,G,F,q⟩=>⟨r,G,F,bu (fY F rfl q) fun h q J z H0 N Y=>?_⟩⟩;refine⟨fun i n M H=>∃r G,SI X g m r G M H/\bI z G/\i<=h.length/\n=h.length-i/\cH X g ro m mb G D (aZ ft s1 (h.drop i) r),⟨h.length,r,z,F.grow N,bI.refl z,YQ _,rfl,cH.gle q N.ge⟩,?_⟩
 rintro i n C t ⟨O,v,b,c,P,rfl,q1⟩
 by_cases f:i<h.length
 .have hd:=Ī f;rw[hd]at q1;unfold aZ at q1;refine .inr ⟨Y.go v t i c b.gok f,fun p u=>∃r G,SI X g m r G p u/\bI z G/\cH X g ro m mb G D _,fun p u ⟨j,B,E,Z,T⟩=>⟨_,by omega,j,B,E,Z,f,rfl,T⟩,fun x u y=>?_⟩;obtain⟨B,l,S⟩:=Y.yld v t i x u h[i] c b.gok y (g_ f);have Z:=c.trans l.ge;cases K:ft h[i] O with
 |none=>simp only[K]at q1;exact q1.elim
 |some I=>simp only[K]at q1;refine⟨O,B,h[i],b.grow l,S,I,K,fun Q BT=>⟨I,B,BT,?_⟩⟩;cases o:s1 I with
  |nx j=>simp only[o]at q1;exact fun a k s L U=>⟨j,k,U,Z.trans L,cH.gle q1 (bI.trans l.ge L)⟩
  |ct j=>simp only[o]at q1;exact fun a k s L U=>⟨j,k,U,Z.trans L,cH.gle q1 (bI.trans l.ge L)⟩
  |bk j=>simp only[o]at q1;exact fun a k s L U=>q1 a k s (bI.trans l.ge L) U
  |rt d=>simp only[o]at q1;exact q1
  |exc x j=>simp only[o]at q1;exact fun W e R a k s L=>q1 W e R a k s (bI.trans l.ge L)
  |stuck=>simp only[o]at q1;exact q1
 .have e:i=h.length:=by omega
  subst e;rw[Į]at q1;exact .inl ⟨Y.stop v t c b.gok,q1 C v t (bI.refl _) b⟩
def eL(m:List Md):List Md:=m.map fun x=>if x=Md.sh then Md.sh else Md.bw
def vR(m:List Md)(r:am)(st:L2.St)(G:GH)(H:Hp):GE:=⟨G,H,fun i=>if m[i]? = some Md.ow\/m[i]? = some Md.bw then some ((st[i]?).join,(r[i]?).join)else none⟩
theorem pE{i:Nat}(h:m[i]? = some x):(eL m)[i]? = some (if x=Md.sh then Md.sh else Md.bw):=by unfold eL;rw[l_,h];rfl
theorem PY{i:Nat}(h:(eL m)[i]? = some Md.sh):m[i]? = some Md.sh:=by cases q:m[i]? with
|none=>unfold eL at h;rw[l_,q]at h;cases h
|some x=>rw[pE q]at h;cases x <;> first|rfl|(simp at h)
theorem Ir{i:Nat}(h:(eL m)[i]? = some Md.ow):False:=by cases q:m[i]? with
|none=>unfold eL at h;rw[l_,q]at h;cases h
|some x=>rw[pE q]at h;cases x <;> simp at h
theorem lockM_bw{i:Nat}(h:(eL m)[i]? = some Md.bw):m[i]? = some Md.ow\/m[i]? = some Md.bw:=by cases q:m[i]? with
|none=>unfold eL at h;rw[l_,q]at h;cases h
|some x=>rw[pE q]at h;cases x with
 |sh=>simp at h
 |ow=>exact .inl rfl
 |bw=>exact .inr rfl
theorem SI.lock{st:L2.St}(s:SI X g m r G st H):SI X (vR m r st G H) (eL m) r G st H where
 gok:=s.gok
 old:=fun _ _ e=>e
 ge:=fun _ _ e=>e
 gf:=fun _ _=>rfl
 lm:=by unfold eL;rw[b_];exact s.lm
 lr:=s.lr
 sh:=fun i d h L=>s.sh i d h (PY L)
 ow:=fun i d h L=>(Ir L).elim
 bw:=fun i d h L=>by
  rcases lockM_bw L with z|z
  .obtain⟨a,h1,h2,_⟩:=s.ow i d h z;exact⟨_,h1,.inr ⟨a,rfl,h2,h2.ob.isS⟩⟩
  .obtain⟨v,h1,h2⟩:=s.bw i d h z;refine⟨v,h1,?_⟩;rcases h2 with h2|⟨a,e,h2,_⟩
   .exact .inl h2
   .exact .inr ⟨a,e,h2,h2.ob.isS⟩
 dis:=fun i j a d e _ _ _ L=>(Ir L).elim
 lk:=fun i o h L=>by
  have U:(if m[i]? = some Md.ow\/m[i]? = some Md.bw then some _ else none)=some o:=h;rw[Q_e (lockM_bw L)]at U;cases U;have Z:=by have:=(h_.mp L).1;unfold eL at this;rw[b_,s.lm]at this;exact this
  refine⟨?_,fun d Y=>by rw[Y];rfl⟩;simp_all
theorem SI.unlock{st k:L2.St}(s:SI X g m r G st H)(n:SI X (vR m r st G H) (eL m) r' A k y):SI X g m r' A k y:=by
 have w:Grow X.K G H A y:=n.grown;have L:∀(i:Nat),(m[i]? = some Md.ow\/m[i]? = some Md.bw)->k[i]? = some (st[i]?).join/\∀d,r'[i]? = some (some d)->r[i]? = some (some d):=fun i p=>by
  have Z:(eL m)[i]? = some Md.bw:=by rcases p with z|z <;> rw[pE z] <;> simp
  obtain⟨f,l⟩:=n.lk i ((st[i]?).join,(r[i]?).join) (Q_e p) Z;refine⟨f,fun d x=>?_⟩;have:=l d x;cases q:r[i]? with
 |none=>rw[q]at this;cases this
 |some o=>rw[q]at this;rw[show o=some d from this]
 have U:∀(i:Nat) v,(m[i]? = some Md.ow\/m[i]? = some Md.bw)->st[i]? = some (some v)->k[i]? = some (some v):=fun i v p h=>by rw[(L i p).1,h];rfl
 refine⟨n.gok,fun a o e=>n.old a o (s.old a o e),fun a d e=>n.ge a d (s.ge a d e),fun a h=>?_,?_,n.lr,fun i d h Z=>?_,fun i d h Z=>?_,fun i d h Z=>?_,fun i j a d e Y f l u t q1 J=>?_,fun i o p Z=>?_⟩
 .have f:H a≠none:=by cases e:g.h0 a with
  |none=>exact Q_g e h
  |some o=>rw[s.old _ _ e];simp
  rw[w.gf a f,s.gf a h]
 .have:=n.lm;unfold eL at this;rw[b_]at this;exact this
 .exact n.sh i d h (by rw[pE Z];simp)
 .obtain⟨a,f,l,h3⟩:=s.ow i d ((L i (.inl Z)).2 d h) Z;exact⟨a,U i _ (.inl Z) f,l.mono w,h3⟩
 .obtain⟨v,f,l⟩:=s.bw i d ((L i (.inr Z)).2 d h) Z;exact⟨v,U i _ (.inr Z) f,l.grow w⟩
 .have e1:=(L i (.inl u)).2 d f;have I:=(L j (.inl t)).2 e l;obtain⟨b,C,_,_⟩:=s.ow i d e1 u;obtain⟨c,B,_,_⟩:=s.ow j e I t;have F:=U i _ (.inl u) C;have E:=U j _ (.inl t) B;rw[q1]at F;rw[J]at E;cases F;cases E;exact s.dis i j a d e Y e1 I u t C B
 .obtain⟨f,l⟩:=s.lk i o p Z;refine⟨?_,fun d x=>l d ((L i (.inr Z)).2 d x)⟩;rw[(L i (.inr Z)).1,f];rfl
theorem SI.unlockX{G f:GH}{st Y:L2.St}{H c:Hp}(s:SI X g m r G st H)(U:SI X (vR m r st G H) (gE (eL m)) r' f Y c):SI X g (gE m) r' f Y c:=by
 have w:Grow X.K G H f c:=U.grown;have n:gE (eL m)=gE m:=tq (by unfold eL;rw[b_]);rw[n]at U;have b:∀{i:Nat}{x:Md},(gE m)[i]? = some x->x=Md.sh:=fun{i x} h=>by unfold gE at h;simp_all
 refine⟨U.gok,fun a o e=>U.old a o (s.old a o e),fun a d e=>U.ge a d (s.ge a d e),fun a h=>?_,U.lm,U.lr,U.sh,fun i d h Z=>(nomatch (b Z)),fun i d h Z=>(nomatch (b Z)),fun i j a d e L k t l p=>(nomatch (b l)),fun i o q Z=>(nomatch (b Z))⟩;have k:H a≠none:=by cases e:g.h0 a with
 |none=>exact Q_g e h
 |some o=>rw[s.old _ _ e];simp
 rw[w.gf a k,s.gf a h]
theorem rZ(hp:ā (u_ X.prog X.w) X.A X.env X.xe)(hc:X.calm=true)(hi:fg X g m tg iter fi)(hg:∀g',SG X g' (eL m) tg ft (eL m))(hb:∀g',fS X g' ro (eL m) (eL m) sts s1 (eL m))(hs:∀x,Zb iter X.env x=pure x:=by intro _;rfl):SS X g ro mb m (.For tg iter sts [] pos) (iU m fi ft s1) m:=by
 have Cl:PG X tg (fun v j H Q=>∃g',tG X g' _ _ ft v j H Q):=fun M s j H v u Q I r ⟨g',q⟩=>(hg g').2 M s j H v u Q I r q;have IO:dI X sts (fun D j H=>∃g',tS X g' ro _ _ _ s1 D j H):=fun M s j H D I ⟨g',q⟩=>(hb g').2 M s j H D I q;refine⟨rfl,PS.imp (wR hp hc hi Cl IO hs) fun D j H ⟨r,G,S,q⟩=>⟨r,G,S,bu (fY S rfl q) fun h q J G0 H0 w0 Y=>?_⟩⟩;have Z:=S.grow w0;refine⟨fun i n k C=>∃K p,SI X _ _ K p k C/\i<=h.length/\n=h.length-i/\cH X g ro m mb p D (aZ ft s1 (h.drop i) K),⟨h.length,r,G0,Z.lock,YQ _,rfl,cH.gle q w0.ge⟩,?_⟩
 rintro i n k C ⟨K,p,l,hi,rfl,q1⟩
 have P:=l.grown;by_cases f:i<h.length
 .have hd:=Ī f;rw[hd]at q1;unfold aZ at q1;refine .inr ⟨Y.go p C i P f,fun E O=>∃c t,SI X _ _ c t E O/\cH X g ro m mb t D _,fun E O ⟨c,t,R,q'⟩=>⟨_,by omega,c,t,R,f,rfl,q'⟩,fun x O y=>?_⟩;obtain⟨t,F,rv⟩:=Y.yld p C i x O h[i] P y (g_ f);cases W:ft h[i] K with
 |none=>simp only[W]at q1;exact q1.elim
 |some T=>simp only[W]at q1;refine⟨_,K,t,h[i],l.grow F,rv,T,W,fun σ2 Id=>⟨_,T,t,Id,?_⟩⟩;cases B:s1 T with
  |nx c=>simp only[B]at q1;exact fun b o N L U=>⟨c,o,U,cH.gle q1 (bI.trans F.ge L)⟩
  |ct c=>simp only[B]at q1;exact fun b o N L U=>⟨c,o,U,cH.gle q1 (bI.trans F.ge L)⟩
  |bk c=>simp only[B]at q1;exact fun b o N L U=>q1 b o N (bI.trans F.ge L) (Z.unlock U)
  |rt d=>simp only[B]at q1;intro v G2 H2 wr BT;refine q1 v G2 H2 (Z.grown.trans wr) ?_;cases ro with
   |false=>exact BT
   |true=>
     rcases BT with⟨a,e1,e2,e3⟩|z
     .exact .inl ⟨a,e1,Z.grown.back e2,e3⟩
     .exact .inr z
  |exc x c=>simp only[B]at q1;exact fun M e s' b o N L U=>q1 M e s' b o N (bI.trans F.ge L) (Z.unlockX U)
  |stuck=>simp only[B]at q1;exact q1
 .have e:i=h.length:=by omega
  subst e;rw[Į]at q1;exact .inl ⟨Y.stop p C P,q1 k p C (bI.refl _) (Z.unlock l)⟩
def fK(m:List Md)(p:FQ)(body:FS):Nat->FS
|0,_=>.stuck
|n+1,r=>iG m r (p r) fun c=>if c=true then(match body r with
  |.nx r'=>fK m p body n r'
  |.ct r'=>fK m p body n r'
  |.bk r'=>.nx r'
  |o=>o)else .nx r
theorem so(n:Nat)(B:ā (u_ X.prog X.w) X.A X.env X.xe)(C:SQ X g m c p)(E:fS X g ro m m sts s1 m):SS X g ro mb m (.While c sts [] pos) (fK m p s1 n) m:=by
 refine⟨rfl,PS.imp (QP B C E.2) fun D t H w=>?_⟩;obtain⟨r,G,J,q⟩:=w;refine⟨fun n t H=>∃r G,SI X g m r G t H/\cH X g ro m mb G D (fK m p s1 n r),by grind,?_⟩
 rintro n o K ⟨s,I,a,q1⟩
 cases n with
|zero=>exact q1.elim
|succ n=>refine⟨s,I,a,bu (fY a rfl q1) fun c Y v F b=>?_⟩;cases c with
 |false=>exact Y o v F b.ge (a.grow b)
 |true=>refine⟨fun j u=>∃r G,SI X g m r G j u/\cH X g ro m mb G D _,fun j u h=>⟨n,Zi _,h⟩,s,v,a.grow b,?_⟩;cases i:s1 s with
  |nx k=>simp only[i]at Y;exact fun Z f l L U=>⟨k,f,U,cH.gle Y (bI.trans b.ge L)⟩
  |ct k=>simp only[i]at Y;exact fun Z f l L U=>⟨k,f,U,cH.gle Y (bI.trans b.ge L)⟩
  |bk k=>simp only[i]at Y;exact fun Z f l L U=>Y Z f l (bI.trans b.ge L) U
  |rt d=>simp only[i]at Y;exact Y
  |exc x k=>simp only[i]at Y;exact fun z e y Z f l L=>Y z e y Z f l (bI.trans b.ge L)
  |stuck=>simp only[i]at Y;exact Y
def iP(m:List Md)(f:FE)(ft:FT):FS:=fun r=>iG m r (f r) fun d=>match ft d r with
|some r'=>.nx r'
|none=>.stuck
theorem rq(j:SE X g m e f)(Z:SG X g m tg ft m')(hs:ŷ [tg] e pos.line X.env=pure false:=by rfl)(i:Ÿ [tg] e X.env=pure none:=by rfl)(k:(Zz [tg] X.env).map (·.2)=[ý tg X.env]:=by rfl):SS X g ro mb m (.Assign [tg] e pos) (iP m f ft) m':=by refine⟨Z.1,PS.imp (Fo j Z.2 hs i k) fun D n H ⟨r,G,Y,q⟩=>⟨r,G,Y,bu (fY Y Z.1 q) fun d q v b l w c=>?_⟩⟩;cases a:ft d r with
|none=>simp only[a]at q;exact q.elim
|some h=>simp only[a]at q;exact⟨r,b,d,Y.grow w,c,h,a,fun L U=>q L b l w.ge U⟩
def kL:Res D->Res D
|.ok d=>.ok d
|_=>.stuck
inductive ArgsOk(K:W.Frag)(G:GH)(H:Hp):List Md->List V->List D->Prop where
 |nil:ArgsOk K G H [] [] []
 |sh {v:V} {d:D} {ms:List Md} {vs:List V} {ds:List D}:RG K G v d->ArgsOk K G H ms vs ds->ArgsOk K G H (.sh::ms) (v::vs) (d::ds)
 |bw {v:V} {d:D} {ms:List Md} {vs:List V} {ds:List D}:RB K G H v d->ArgsOk K G H ms vs ds->ArgsOk K G H (.bw::ms) (v::vs) (d::ds)
theorem ArgsOk.len(h:ArgsOk K G H ms vs ds):vs.length=ms.length/\ds.length=ms.length:=by induction h with
|nil=>exact⟨rfl,rfl⟩
|sh h t L=>exact⟨Q_h (· + 1) L.1,Q_h (· + 1) L.2⟩
|bw h t L=>exact⟨Q_h (· + 1) L.1,Q_h (· + 1) L.2⟩
theorem ArgsOk.app(hs:Paired Scl L dds):∀{ms:List Md}{vs:List V}{ds:List D},ArgsOk K G H ms vs ds->ArgsOk K G H (ms++t_ dds.length .sh) (vs++L) (ds++dds)
|_,_,_,.nil=>by induction hs with
 |nil=>exact .nil
 |cons h t U=>exact .sh (.scl h) U
|_,_,_,.sh h t=>.sh h (t.app hs)
|_,_,_,.bw h t=>.bw h (t.app hs)
theorem ArgsOk.get:∀{ms:List Md}{vs:List V}{ds:List D}{i:Nat}{d:D},ArgsOk K G H ms vs ds->ds[i]? = some d->∃v,vs[i]? = some v/\((ms[i]? = some .sh/\RG K G v d)\/(ms[i]? = some .bw/\RB K G H v d))
|_,_,_,_,_,.nil,e=>by simp at e
|_,_,_,0,_,.sh h t,e=>by simp at e;subst e;exact⟨_,rfl,.inl ⟨rfl,h⟩⟩
|_,_,_,0,_,.bw h t,e=>by simp at e;subst e;exact⟨_,rfl,.inr ⟨rfl,h⟩⟩
|_,_,_,i+1,d,.sh h t,e=>by obtain⟨v,U,L⟩:=t.get (i:=i) (d:=d) (by simpa using e);exact⟨v,by simpa using U,by simpa using L⟩
|_,_,_,i+1,d,.bw h t,e=>by obtain⟨v,U,L⟩:=t.get (i:=i) (d:=d) (by simpa using e);exact⟨v,by simpa using U,by simpa using L⟩
def ku(K:W.Frag)(ro:Bool)(ms:List Md)(F:List D->Res D):Sp:=fun vs H Q _=>∃G ds,bi K G H/\ArgsOk K G H ms vs ds/\fin (F ds) (fun d=>∀v G' H',Grow K G H G' H'->RV ro K H G' H' v d->Q v H') fun _=>False
def cX(ro:Bool):Out->Res D
|.nx _=>if ro=true then .stuck else .ok .non
|.rt d=>.ok d
|.exc x _=>.exc x
|_=>.stuck
def bP(n:Nat)(ds:List D):am:=ds.map some++t_ (n-ds.length) none
def iy(n:Nat)(ms:List Md):List Md:=ms++t_ (n-ms.length) .sh
variable{w:S_}
section
variable{P:C_}{mg:Str->Option Value}{base:Heap}
theorem HG(l:bi X.K G H)(Z:ArgsOk X.K G H ms vs ds)(r:ms.length<=N.length):SI X ⟨G,H,fun _=>none⟩ (iy N.length ms) (bP N.length ds) G (L2.bB N vs) H:=by
 obtain⟨q,p⟩:=Z.len;have c:(L2.bB N vs).length=N.length:=by unfold L2.bB;rw[D_,b_,ē];omega
 have n:(bP N.length ds).length=N.length:=by unfold bP;rw[D_,b_,ē];omega
 have m:(iy N.length ms).length=N.length:=by unfold iy;rw[D_,ē];omega
 have Y:∀(i:Nat) d,(bP N.length ds)[i]? = some (some d)->i<ms.length/\(iy N.length ms)[i]? = ms[i]?/\∃v,(L2.bB N vs)[i]? = some (some v)/\((ms[i]? = some .sh/\RG X.K G v d)\/(ms[i]? = some .bw/\RB X.K G H v d)):=fun i d h=>by
  unfold bP at h;by_cases b:i<ds.length
  .rw[Yw (by simpa using b),l_]at h;have k:ds[i]? = some d:=by cases z:ds[i]? with
   |none=>rw[z]at h;cases h
   |some s=>rw[z]at h;cases h;rfl
   obtain⟨v,g,f⟩:=Z.get k;refine⟨by omega,?_,v,?_,f⟩
   .unfold iy;rw[Yw (by omega)]
   .unfold L2.bB;rw[Yw (by rw[b_];omega),l_,g];rfl
  .rw[ZC (by simpa using b),Zu]at h;split at h <;> cases h
 refine⟨l,fun _ _ e=>e,fun _ _ e=>e,fun _ _=>rfl,by rw[m,c],by rw[c,n],fun i d h U=>?_,fun i d h U=>?_,fun i d h U=>?_,fun i j a d e _ h _ U=>?_,fun i o h=>nomatch h⟩
 .obtain⟨_,hq,v,h1,h2⟩:=Y i d h;rw[hq]at U;rcases h2 with⟨_,h2⟩|⟨L,h2⟩
  .exact⟨v,h1,h2⟩
  .rw[U]at L;cases L
 .obtain⟨_,hq,v,h1,h2⟩:=Y i d h;rw[hq]at U;rcases h2 with⟨L,h2⟩|⟨L,h2⟩ <;> rw[U]at L <;> cases L
 .obtain⟨_,hq,v,h1,h2⟩:=Y i d h;rw[hq]at U;rcases h2 with⟨L,h2⟩|⟨L,h2⟩
  .rw[U]at L;cases L
  .refine⟨v,h1,?_⟩;rcases h2 with h2|⟨a,rfl,h2⟩
   .exact .inl h2
   .exact .inr ⟨a,rfl,h2,h2.ob.isS⟩
 .obtain⟨_,hq,v,h1,h2⟩:=Y i d h;rw[hq]at U;rcases h2 with⟨L,h2⟩|⟨L,h2⟩ <;> rw[U]at L <;> cases L
theorem P9{fs:FS}{r:am}{Q:VK}(q:fin (cX Y (fs r)) (fun d=>∀v U L,Grow X.K G H U L->RV Y X.K H U L v d->Q v L) fun _=>False):cH X ⟨G,H,fun _=>none⟩ Y m' [] G { nx:=fun _ L=>Q .non L,rt:=Q } (fs r):=by cases e:fs r with
|nx Z=>rw[e]at q;cases Y with
 |false=>exact fun a U L _ c=>q .non U L c.grown (.scl .non)
 |true=>exact q.elim
|rt d=>rw[e]at q;exact fun v U L b f=>q v U L b f
|bk Z=>rw[e]at q;exact q.elim
|ct Z=>rw[e]at q;exact q.elim
|exc x Z=>rw[e]at q;exact q.elim
|stuck=>rw[e]at q;exact q
theorem wG{st:Stmt}{f:Addr}{e:ZB}{c:Bool}{ms:List Md}{fs:FS}{m':List Md}(F:Fun K x Z st f e)(S:FnScope N ps (ab st))(U:ms.length=ps.length)(L:∀(a:Value)(A:T_)(Y:List Env)(s:c_)(H:Hp)(g:GE)(E:XK),Room k (A.deeper (ä Z (ab st) s.heap.objs.size f a)) ->fS (dF fG P w K mg base N Z (ab st) f a A Y s H E).nox g c [] (iy N.length ms) (aC st) fs m'):FnOk P w K mg base fG (k+1) f e ps (ku K c ms fun ds=>cX c (fs (bP N.length ds))):=by
 refine F.ok S (fun i H Q E k=>by obtain⟨G,ds,d,b,q⟩:=k;exact b.len.1.trans U) fun a A Y s H i Q E j h=>?_;obtain⟨G,ds,d,b,q⟩:=h;have l:ps.length<=N.length:=by have:=Q_h Z5 S.pre;grind
 exact⟨_,(L a A Y s H _ E j).2,_,G,HG d b (by omega),P9 q⟩
end
section
variable{k:Nat}{fa:Addr}{fd:ZB}{ps:List Str}{F:List D->Res D}{dvs:List V}{ds:List Value}{dds:List D}{x:Str}{p:Pos}{ms:List Md}
def VU(X:Cx)(g:GE)(m:List Md)(ms:List Md)(f:am->Res (List D)):TA:=fun σ H Q=>∃r G,SI X g m r G σ H/\fin (f r) (fun ds=>∀vs G' H',Grow X.K G H G' H'->ArgsOk X.K G' H' ms vs ds->Q vs H') (XW X σ G H)
def jL(X:Cx)(g:GE)(m:List Md)(es:List Expr)(ms:List Md)(f:am->Res (List D)):Prop:=PA X es (VU X g m ms f)
theorem aB:jL X g m [] [] ag:=PA.imp iZ fun U H Q z=>by obtain⟨r,G,L,k⟩:=z;exact k [] G H (Grow.refl L.gok) .nil
theorem aR(h:SE X g m e f)(c:jL X g m es ms fl)(hs:f_ (e::es) X.env=(false,eval e X.env)::f_ es X.env:=by rfl):jL X g m (e::es) (.sh::ms) (ak f fl):=by
 refine PA.imp (fZ h c hs) fun n H Q ⟨r,G,Y,k⟩=>⟨r,G,Y,bu (bv k) fun d b v l q L a=>⟨r,l,Y.grow L,?_⟩⟩
 exact ic (bv b) L fun p z o j i U Z=>z _ j i (L.trans U) (.sh (a.mono U.ge) Z)
theorem af(h:SB X g m e f)(c:jL X g m es ms fl)(hs:f_ (e::es) X.env=(false,eval e X.env)::f_ es X.env:=by rfl):jL X g m (e::es) (.bw::ms) (ak f fl):=by
 refine PA.imp (fZ h c hs) fun n H Q ⟨r,G,Y,k⟩=>⟨r,G,Y,bu (bv k) fun d b v l q L a=>⟨r,l,Y.grow L,?_⟩⟩
 exact ic (bv b) L fun p z o j i U Z=>z _ j i (L.trans U) (.bw (a.mono U) Z)
def bx(fl:am->Res (List D))(dds:List D)(F:List D->Res D):FE:=fun r=>(fl r).bind fun ds=>kL (F (ds++dds))
theorem Ja(c:bi X.K G H)(b:ArgsOk X.K G H ms vs Y)(L:Paired Scl dvs dds)(q:fin (kL (F (Y++dds))) (fun d=>∀v a U,Grow X.K G H a U->RV Z X.K H a U v d->Q v U) fun _=>False):ku X.K Z (ms++t_ dds.length .sh) F (vs++dvs) H Q E0:=by refine⟨G,_,c,b.app L,?_⟩;cases e:F _ with
|ok d=>rw[e]at q;exact q
|exc x=>rw[e]at q;exact q.elim
|stuck=>rw[e]at q;exact q.elim
theorem Aa{r:Res L}{q:L->Prop}{x:D->Prop}(h:fin r q x)(U:∀e,r≠.exc e):fin r q fun _=>False:=by cases r with
|ok a=>exact h
|exc e=>simp_all
|stuck=>exact h
theorem Fc(r:Res D)(e:D):kL r≠.exc e:=by cases r <;> simp[kL]
theorem MN(B:FnOk X.prog X.w X.K X.mg X.base fG k fa fd ps (ku X.K false (ms++t_ dds.length .sh) F))(i:Room k X.A)(n:Gl X x)(j:X.mg x=some (.ref fa))(l:W.keepIn X.K (.ref fa)=true)(t:jg X.K fd ps ds)(s:ar dvs ds)(U:Paired Scl dvs dds)(u:jL X g m (e::es) ms fl)(L:(x==("__debug__" : Str))=false:=by decide)(o:f_ (e::es) X.env=(false,eval e X.env)::f_ es X.env:=by rfl)(Y:(backTo pos (f_ es X.env)).any (·.1)=false:=by rfl):SE X g m (.Call (.Name x p) (e::es) [] pos) (bx fl dds F):=by
 refine PE.imp (GD B i n j l t s rG u L o Y) fun C H Q ⟨r,G,c,q⟩=>⟨r,G,c,?_⟩
 cases Z:fl r with
|ok E=>unfold bx at q;rw[Z]at q;intro I M J a h;exact Ja a.ok h U (bu (Aa q (Fc _)) fun d k v z y b f=>k v z y (a.trans b) f)
|exc x=>unfold bx at q;rw[Z]at q;exact q
|stuck=>unfold bx at q;rw[Z]at q;exact q
end
theorem Qg:∀(l:List (Str×ð))(Y:List (Str×Addr)),(∀x∈l,x.2=.free->∃c,U.cells.lookup x.1=some c)->(∀x c,Y.lookup x=some c->U.cells.lookup x=some c) ->∃b,(forIn l Y (fun(x:Str×ð)(Y:List (Str×Addr))=>if (x.2==NameKind.free)=true then(do let a <-cellOf U x.1;pure (ForInStep.yield ((x.1,a)::Y)))else pure (ForInStep.yield Y)):Sem (List (Str×Addr)))=pure b /\(∀x c,b.lookup x=some c->U.cells.lookup x=some c)/\(∀x,(x,NameKind.free)∈l->∃c,b.lookup x=some c)/\(∀x c,Y.lookup x=some c->∃d,b.lookup x=some d):=by
 intro l
 induction l with
|nil=>intro Y _ h;exact⟨Y,rfl,h,fun x Z=>(by cases Z),fun x c h=>⟨c,h⟩⟩
|cons y l o=>
  intro Y g p;obtain⟨n,k⟩:=y;by_cases f:k=.free
  .subst f;obtain⟨c,r⟩:=g (n,.free) m_ rfl;have t:cellOf U n=pure c:=by unfold cellOf;rw[r]
   have L:∀x d,((n,c)::Y).lookup x=some d->U.cells.lookup x=some d:=fun x d h=>by rw[Ø]at h;cases q:x==n with
   |true=>rw[q]at h;cases h;rw[í q];exact r
   |false=>rw[q]at h;exact p x d h
   obtain⟨b,m,j,i,e⟩:=o ((n,c)::Y) (fun x Z=>g x (k_ _ Z)) L;refine⟨b,?_,j,fun x Z=>?_,fun x d h=>?_⟩
   .rw[<-m];rw[ZW];show(cellOf U n >>= fun a=>pure (ForInStep.yield ((n,a)::Y))) >>= _=_;rw[t];rfl
   .rcases s_.mp Z with z|z
    .cases z;exact e n c (by rw[Ø];simp)
    .exact i x z
   .cases q:x==n with
   |true=>exact e x c (by rw[Ø,q])
   |false=>exact e x d (by rw[Ø,q];exact h)
  .obtain⟨b,m,j,i,e⟩:=o Y (fun x Z=>g x (k_ _ Z)) p;have s:(k==NameKind.free)=false:=by simpa using f
   refine⟨b,?_,j,fun x Z=>?_,e⟩
   .rw[<-m,ZW];simp only[s,YE,Q_n];rfl
   .rcases s_.mp Z with z|z
    .cases z;exact Q_g rfl f
    .exact i x z
theorem Ts(Z:∀x∈L.names,x.2=.free->∃c,U.cells.lookup x.1=some c):∃Y,Qfa L U=pure Y/\(∀x c,Y.lookup x=some c->U.cells.lookup x=some c)/\(∀x,(x,NameKind.free)∈L.names->∃c,Y.lookup x=some c):=by obtain⟨Y,e,b,a,_⟩:=Qg L.names [] Z (by simp_all);refine⟨Y,?_,b,a⟩;have d:Qfa L U=((forIn L.names _ _) >>= fun f=>pure f):=rfl;rw[d,e];rfl
theorem Kn{f:Str->ð->ð}:∀(l:List (Str×ð))(x:Str),(l.map fun y=>(y.1,f y.1 y.2)).lookup x=(l.lookup x).map (f x)
|[],x=>rfl
|(n,k)::l,x=>by rw[Yx,Ø,Ø];cases q:x==n with
 |true=>simp[í q]
 |false=>exact Kn l x
def eV(env:Env)(n:Str)(k:ð):ð:=if (k==.free&&env.scope.kind==.function&&env.kindOf n==some .cell)=true then .cell else k
theorem Ko(L:à)(U:Env)(x:Str):(ĥ L U).names.lookup x=(L.names.lookup x).map (eV U x):=by
 rw[<-Kn];congr 1;apply X_;intro y _;obtain⟨n,k⟩:=y;show(if (k==NameKind.free&&U.scope.kind==.function&&U.kindOf n==some .cell)=true then(n,NameKind.cell)else(n,k))=(n,eV U n k)
 unfold eV;split <;> rfl
structure CompSc(X:Cx)(scope:à)(N':List Str)(nl:Nat)(cap:List Nat):Prop where
 kind:scope.kind=.function
 nocell:∀y∈scope.names,y.2≠.cell
 names:∀y∈scope.names,y.2=.local->scope.names.lookup y.1=some .local
 freeK:∀y∈scope.names,y.2=.free->X.env.kindOf y.1=some .cell\/X.env.kindOf y.1=some .free
 len:N'.length=nl+cap.length
 capN:∀j,j<cap.length->∃x,N'[nl+j]? = some x/\X.N[cap.getD j 0]? = some x/\scope.names.lookup x=some .free
def de(X:Cx)(s₀:c_)(H₀:Hp)(N':List Str)(scope:à)(cl:List (Str×Addr))(C:Addr)(fp:List Addr):Cx where
 prog:=X.prog
 w:=X.w
 K:=X.K
 mg:=X.mg
 base:=X.base
 A:=X.A
 N:=N'
 s₀:=s₀
 H₀:=H₀
 env:=Ă scope cl C X.env
 outer:=X.stack
 stack:=X.stack
 ex:=fp
 fn:=fun _=>false
 calm:=X.calm
 pn:=[]
 xe:=fun _ _=>False
variable{pz:List (Addr×Obj)}{σ:L2.St}{s:c_}{scope:à}{N':List Str}{nl:Nat}{cap:List Nat}{cl:List (Str×Addr)}{C:Addr}{fp:List Addr}
theorem Lb(I:Inv X pz σ H s)(f:CompSc X scope N' nl cap)(d:∀x c,cl.lookup x=some c->X.env.cells.lookup x=some c)(q:∀x,(x,NameKind.free)∈scope.names->∃c,cl.lookup x=some c)(Y:∀b∈fp,dG X pz H b/\b<s.heap.objs.size)(i:s.heap.objs.size<=C):(de X s H N' scope cl C fp).Ok where
 mod:=I.ok.mod
 kind:=f.kind
 glob:=I.ok.glob
 blt:=I.ok.blt
 above:=i
 inj:=fun x y c a b=>I.ok.inj x y c (d x c a) (d y c b)
 has:=fun x p=>by
  have n:(scope.names.lookup x).map (eV X.env x)=some .cell\/(scope.names.lookup x).map (eV X.env x)=some .free:=by rw[<-Ko];exact p
  cases e:scope.names.lookup x with
 |none=>simp_all
 |some k=>
   have g:=ZG e;have l:k=.free:=by
    have L:eV X.env x k=.cell\/eV X.env x k=.free:=by simp_all
    unfold eV at L;split at L
    .simp_all
    .rcases L with z|z
     .exact Q_g z (f.nocell _ g)
     .exact z
   subst l;exact q x g
 cab:=fun x c h=>by cases h
 hd:=I.ok.hd
 frames:=I.ok.frames
 stk:=.inl rfl
 exf:=fun b U=>⟨z_ (B_ (Y b U).2 i),fun x c e=>(Y b U).1.2.2.2.2.1 x c (d x c e)⟩
 bs:=I.bs
 bsz:=Y1 I.ok.bsz I.sz
 noex:=fun b o e U=>by
  obtain⟨_,_,_,m,_⟩:=(Y b U).1;rcases m with z|z
  .exact I.ok.noex b o e z
  .exact Q_g (B_ (o_ e) (Y1 I.ok.bsz z)) (YY _)
 exfs:=fun b U Z=>by
  obtain⟨_,q1,j,_⟩:=(Y b U).1;rcases s_.mp (I.stkSub b Z)with z|z
  .exact q1 z
  .exact j z
 funs:=I.stack
 frf:=I.stkFree
def hV(ft:FT)(q:FQ)(fe:FE)(r0:am):List D->Res (List D)
|[]=>.ok []
|d::ds=>(dD (ft d r0)).bind fun r1=>(q r1).bind fun c=>if c=true then(fe r1).bind fun v=>(hV ft q fe r0 ds).bind fun vs=>.ok (v::vs)else hV ft q fe r0 ds
def bO(nl:Nat)(cap:List Nat)(r:am):am:=t_ nl none++cap.map fun i=>r.getD i none
def aL(nl:Nat)(cap:List Nat)(m:List Md):List Md:=t_ nl Md.sh++cap.map fun i=>if m.getD i Md.sh=Md.sh then Md.sh else Md.bw
def dS(nl:Nat)(cap:List Nat)(st:L2.St):L2.St:=t_ nl none++cap.map fun i=>st.getD i none
theorem pf{L:Type}{u:L}{h:Nat->L}(U:nl<=i):(t_ nl u++cap.map h)[i]? = (cap[i-nl]?).map h:=by rw[ZC (by simpa using U),ē,l_]
theorem VM(l:SI X g m r G σ H)(w:Grow X.K G H G' H'):SI (de X s H N' scope cl C fp) ⟨G,H,fun _=>none⟩ (aL nl cap m) (bO nl cap r) G' (dS nl cap σ) H':=by
 have B:(aL nl cap m).length=nl+cap.length:=by simp[aL]
 have E:(bO nl cap r).length=nl+cap.length:=by simp[bO]
 have Z:(dS nl cap σ).length=nl+cap.length:=by simp[dS]
 have U:∀(i:Nat) d,(bO nl cap r)[i]? = some (some d)->nl<=i/\∃j,cap[i-nl]? = some j/\r[j]? = some (some d):=fun i d h=>by
  by_cases b:i<nl
  .unfold bO at h;rw[Yw (by simpa using b),Zu]at h;split at h <;> cases h
  .refine⟨by omega,?_⟩;unfold bO at h;rw[pf (by omega)]at h;cases e:cap[i-nl]? with
  |none=>rw[e]at h;cases h
  |some j=>rw[e]at h;refine⟨j,rfl,?_⟩;have p:r.getD j none=some d:=K_ h;rw[G_]at p;cases y:r[j]? with
   |none=>rw[y]at p;cases p
   |some o=>rw[y]at p;rw[show o=some d from p]
 have L:∀(i j:Nat) md,nl<=i->cap[i-nl]? = some j->(aL nl cap m)[i]? = some md->md=if m.getD j Md.sh=Md.sh then Md.sh else Md.bw:=fun i j md b c h=>by unfold aL at h;rw[pf b,c]at h;exact(K_ h).symm
 have Y:∀(i j:Nat) v,nl<=i->cap[i-nl]? = some j->σ[j]? = some (some v)->(dS nl cap σ)[i]? = some (some v):=fun i j v b c h=>by unfold dS;rw[pf b,c];show some (σ.getD j none)=_;rw[G_,h];rfl
 have x:∀(j:Nat) d,r[j]? = some (some d)->m[j]? = some (m.getD j Md.sh):=fun j d h=>by
  have A:j<m.length:=by have:=(h_.mp h).1;rw[l.lr,<-l.lm]at this;exact this
  rw[G_,g_ A];rfl
 refine⟨w.ok,w.he,w.ge,w.gf,by rw[B,Z],by rw[E,Z],fun i d h k=>?_,fun i d h k=>?_,fun i d h k=>?_,fun i j a d e _ h _ k=>?_,fun i o h=>nomatch h⟩
 .obtain⟨b,j,c,hr⟩:=U i d h;have e:=L i j _ b c k;have u:m.getD j Md.sh=Md.sh:=by
   by_cases z:m.getD j Md.sh=Md.sh
   .exact z
   .rw[Q_f z]at e;cases e
  obtain⟨v,n,f⟩:=l.sh j d hr (by rw[x j d hr,u]);exact⟨v,Y i j v b c n,f.mono w.ge⟩
 .obtain⟨b,j,c,hr⟩:=U i d h;have e:=L i j _ b c k;split at e <;> cases e
 .obtain⟨b,j,c,hr⟩:=U i d h;have e:=L i j _ b c k;have u:m.getD j Md.sh≠Md.sh:=by intro z;rw[Q_e z]at e;cases e
  have t:=x j d hr;cases q:m.getD j Md.sh with
 |sh=>exact Q_g q u
 |ow=>rw[q]at t;obtain⟨a,n,f,_⟩:=l.ow j d hr t;exact⟨_,Y i j _ b c n,.inr ⟨a,rfl,f.mono w,f.ob.isS⟩⟩
 |bw=>
   rw[q]at t;obtain⟨v,n,f⟩:=l.bw j d hr t;refine⟨v,Y i j _ b c n,?_⟩;rcases f with f|⟨a,rfl,f,_⟩
   .exact .inl (f.mono w.ge)
   .exact .inr ⟨a,rfl,f.mono w,f.ob.isS⟩
 .obtain⟨b,j',c,hr⟩:=U i d h;have e:=L i j' _ b c k;split at e <;> cases e
theorem La(I:Inv X pz σ H s)(P:(de X s H N' scope cl C fp).Ok)(y:CompSc X scope N' nl cap)(r:∀x c,cl.lookup x=some c->X.env.cells.lookup x=some c)(h2:∀x,(x,NameKind.free)∈scope.names->∃c,cl.lookup x=some c)(hN:X.N.Nodup){f:c_}{m:Hp}(BT:f.os=s.os)(hb:ô f.gens)(G:∀b o,s.heap.get? b=some o->f.heap.get? b=some o)(Y:f.heap.Ns C F)(hC:s.heap.objs.size<=C)(ac:m C=none)(hH:∀b,H b=none->b<s.heap.objs.size->m b=none)(M:Un (ij X.stack) fp H m s.heap f.heap)(A:cS X.prog X.w m f.heap):Inv (de X s H N' scope cl C fp) [] (dS nl cap σ) m f:=by
 refine⟨P,BT,hb,M,⟨F,Y,fun i x v e1 d e3=>?_⟩,fun x c e=>?_,ac,fun x c e=>?_,fun p S=>Q_g (show p∈([]:List (Addr×Obj))from S) (by simp),A,?_⟩
 .have hi:nl<=i:=by
   by_cases z:i<nl
   .unfold dS at d;rw[Yw (by simpa using z),Zu]at d;split at d <;> cases d
   .omega
  unfold dS at d;rw[pf hi]at d;cases t:cap[i-nl]? with
 |none=>rw[t]at d;cases d
 |some j=>
   rw[t]at d;have W:i-nl<cap.length:=(h_.mp t).1;obtain⟨a,q1,E,B⟩:=y.capN (i-nl) W;have ed:cap.getD (i-nl) 0=j:=by rw[G_,t];rfl
   rw[ed]at E;have ei:nl+(i-nl)=i:=by omega
   rw[ei]at q1;have U:N'[i]? = some x:=e1;rw[q1]at U;have ex:a=x:=K_ U;subst ex;have R:σ[j]? = some (some v):=by have z:σ.getD j none=some v:=K_ d;rw[G_]at z;cases q:σ[j]? with
   |none=>rw[q]at z;cases z
   |some o=>rw[q]at z;rw[show o=some v from z]
   have L:=ZG B;have J:=y.freeK _ L rfl;obtain⟨mx,Cl,T⟩:=I.loc;obtain⟨u,O,Q⟩:=T j a v E R (.inr J);refine⟨u,O,.inr ?_⟩;obtain⟨c,K⟩:=h2 a L;have Z:Env.kindOf (de X s H N' scope cl C fp).env a=some .cell\/Env.kindOf (de X s H N' scope cl C fp).env a=some .free:=by
    have z:(ĥ scope X.env).names.lookup a=some (eV X.env a .free):=by rw[Ko,B];rfl
    show(ĥ scope X.env).names.lookup a=_\/(ĥ scope X.env).names.lookup a=_;rw[z];unfold eV;split
    .exact .inl rfl
    .exact .inr rfl
   refine⟨Z,c,K,?_⟩;rcases Q with⟨k,_⟩|⟨_,c',l,g⟩
   .rcases J with z|z <;> rw[k]at z <;> cases z
   .rw[r a c K]at l;cases l;obtain⟨o,h,n⟩:=g;exact⟨o,G c o h,n⟩
 .obtain⟨v,o,h,n⟩:=I.cell x c (r x c e);exact⟨v,o,G c o h,n⟩
 .obtain⟨v,o,h,n⟩:=I.cell x c (r x c e);exact hH c (I.freeC x c (r x c e)) (o_ h)
 .show(dS nl cap σ).length=N'.length;rw[y.len];simp[dS]
section
variable{prog:C_}{A:T_}{R:ò->c_->Prop}
theorem NE{j a g:Expr}{f:à}(I:Nat->c_->Prop)(U:∀n s,I n s->p_ (u_ prog w) A (å o) (fun r l=>match r with
  |none=>R (.ok .next) l
  |some v=>p_ (u_ prog w) A (ű a o v) (fun _ L=>p_ (u_ prog w) A (ý a Z v) (fun _ t=>
     p_ (u_ prog w) A (forIn i true fun c r=>if r=true then do let ok <-isTrue c Z (eval c Z);pure (ForInStep.yield ok)else pure (ForInStep.yield r)) (fun ok s3=>
      if ok=true then p_ (u_ prog w) A (eval j Z) (fun x q=>p_ (u_ prog w) A (call (.builtin "list.append") [k,x]) (fun _ p=>∃m,m<n/\I m p) (Â (u_ prog w) A Z fun e b=>R (.error e) b) q) (Â (u_ prog w) A Z fun e b=>R (.error e) b) s3
      else ∃m,m<n/\I m s3) (Â (u_ prog w) A Z fun e b=>R (.error e) b) t) (Â (u_ prog w) A Z fun e b=>R (.error e) b) L)
     (Â (u_ prog w) A Z fun e b=>R (.error e) b) l) (Â (u_ prog w) A Z fun e b=>R (.error e) b) s)(n:Nat)(h:I n s):Z1 (u_ prog w) A (.compLoop (.ListComp j [⟨a,g,i,0⟩] f pos) 0 o k Z) R s:=by refine codeAny_loop rfl I (fun n s z=>?_) n h;refine wpAny_noted ?_;refine Q_a (ĸ (Q_a (Z8 (U n s z) (fun r l y=>?_) fun _ _ d=>d)));cases r with
|none=>exact e_ y
|some v=>refine Q_a (Z8 y (fun _ L Y=>?_) fun _ _ d=>d);refine Q_a (Z8 Y (fun _ t E=>Q_a (Z8 E (fun ok s3 u=>?_) fun _ _ d=>d)) fun _ _ d=>d);cases ok with
 |false=>exact e_ ⟨rfl,u⟩
 |true=>exact Q_a (Q_a (Z8 u (fun x q C=>Q_a (Z8 C (fun _ p B=>e_ (e_ ⟨rfl,B⟩)) fun _ _ d=>d)) fun _ _ d=>d))
end
def jK(X:Cx)(g:GE)(m:List Md)(ifs:List Expr)(f:FQ):Prop:=∀(pz:List (Addr×Obj))(s:c_)(σ:L2.St)(H:Hp)(Q:Bool->Hp->Prop),Inv X pz σ H s->tQ X g m f σ H Q ->p_ (u_ X.prog X.w) X.A (forIn ifs true fun c r=>if r=true then do let ok <-isTrue c X.env (eval c X.env);pure (ForInStep.yield ok)else pure (ForInStep.yield r)) (TP X pz σ Q) X.xe s
theorem oN:jK X g m [] fun _=>.ok true:=fun Y s U H Q I k=>by obtain⟨r,G,L,q⟩:=k;exact wpAny_tests_nil ⟨H,I,q G H (Grow.refl L.gok)⟩
theorem oO(h:SQ X g m c p):jK X g m [c] p:=fun U s L H Q I q=>wpAny_tests_one (h U s L H Q I q)
def iQ(ft:FT)(nl:Nat):Prop:=∀d r r1,ft d r=some r1->r1.length=r.length/\∀i,nl<=i->r1[i]? = r[i]?
def rc(ft:j9)(nl:Nat):Prop:=∀d r r1,ft d r=some r1->r1.length=r.length/\∀i,nl<=i->r1[i]? = r[i]?
theorem ki(h:i<nl):iQ (aw i) nl:=fun d r L e=>by
 cases e
 grind
theorem zF:rc cD nl:=fun L r U e=>by cases L with
|nil=>cases e;exact⟨rfl,fun _ _=>rfl⟩
|cons _ _=>cases e
theorem mi(f:iQ ft nl)(c:rc L nl):rc (ba ft L) nl:=fun U r Z e=>by cases U with
|nil=>cases e
|cons d U=>have a:((ft d r).bind fun b=>L U b)=some Z:=e;cases q:ft d r with
 |none=>simp_all
 |some Y=>rw[q]at a;obtain⟨j,i⟩:=f d r Y q;obtain⟨h,g⟩:=c U Y Z a;simp_all
theorem wI(h:rc L nl):iQ (cE L) nl:=fun d r Y e=>by cases d with
|tup U=>exact h U r Y e
|lst U=>exact h U r Y e
|_=>cases e
variable{elt:Expr}{ifs:List Expr}{fe:FE}
section
variable{s2:c_}{J:It}{it:Addr}{tn:Nat->Heap->Prop}{ds vs:List D}{E:Value->c_->Prop}
theorem NB(i:Nat):(aL nl cap m)[i]?≠some Md.ow:=fun h=>by
 by_cases U:i<nl
 .unfold aL at h;rw[Yw (by simpa using U),Zu]at h;split at h <;> cases h
 .unfold aL at h;rw[pf (by omega)]at h;cases e:cap[i-nl]? with
 |none=>rw[e]at h;cases h
 |some j=>rw[e]at h;have L:(if m.getD j Md.sh=Md.sh then Md.sh else Md.bw)=Md.ow:=K_ h;split at L <;> cases L
theorem Ry(L:i<nl)(d:D):(bO nl cap r)[i]?≠some (some d):=fun h=>by unfold bO at h;rw[Yw (by simpa using L),Zu]at h;split at h <;> cases h
def Di(El:W.Frag->GH->Hp->GH->Hp->V->D->Prop)(X:Cx)(g:GE)(m:List Md)(f:FE):TE:=fun σ H Q=>∃r G,SI X g m r G σ H/\fin (f r) (fun d=>∀v G' H',Grow X.K G H G' H'->El X.K G H G' H' v d->Q v H') (XW X σ G H)
theorem JQ{Rl:Addr->GH->Hp->List V->List D->Prop}(R0:∀p G H,Rl p G H [] [])(Rg:∀{p G H F l s ds},Rl p G H s ds->Grow X.K G H F l->Rl p F l s ds)(Rn:∀{p G H s ds},Rl p G H s ds->s.length=ds.length)(Ra:∀{p G H F l s ds v d},Rl p G H s ds->Grow X.K G H F l->Grow X.K G2 H2 G H->H p=some (.lst s)->El X.K G H F l v d->Rl p F (aO l p (.lst (s++[v]))) (s++[v]) (ds++[d]))(hN:X.N.Nodup)(Wb:X.calm=true)(sc:CompSc X scope N' nl cap)(h1:∀x c,cl.lookup x=some c->X.env.cells.lookup x=some c)(h2:∀x,(x,NameKind.free)∈scope.names->∃c,cl.lookup x=some c)(I2:Inv X pz σ H2 s2)(si:SI X g m r G2 σ H2)(T:Turn X.prog X.w X.K tg J fp it tn)(st:tn 0 s2.heap)(hf:∀b∈fp,dG X pz H2 b)(Y:YieldsC X.K J ds G2 H2)(hsz:ds.length<=sizeLine)(hg:∀C,SG (de X s2 H2 N' scope cl C fp) ⟨G2,H2,fun _=>none⟩ (aL nl cap m) tg ft (aL nl cap m))(WF:iQ ft nl)(hq:∀C,jK (de X s2 H2 N' scope cl C fp) ⟨G2,H2,fun _=>none⟩ (aL nl cap m) ifs q)(he:∀C,PE (de X s2 H2 N' scope cl C fp) elt (Di El (de X s2 H2 N' scope cl C fp) ⟨G2,H2,fun _=>none⟩ (aL nl cap m) fe))(Wk:hV ft q fe (bO nl cap r) ds=.ok vs){RR:Value->Addr->ò->c_->Prop}(Wq:∀(p C:Addr)(P:c_)(l:Hp)(F:GH),Inv X pz σ l P->(∃mm,P.heap.Ns C mm)->l C=none->C≠X.env.locals->X.s₀.heap.objs.size<=C->(∀x c,X.env.cells.lookup x=some c->c≠C)->(∀z∈X.pn++pz,z.1≠C) ->Grow X.K G2 H2 F l->H2 p=none->(∃s,l p=some (.lst s)/\F p=none/\Rl p F l s vs)->RR (.ref p) C (.ok .next) P):p_ (u_ X.prog X.w) X.A (newList []) (fun acc s3=>p_ (u_ X.prog X.w) X.A (newFunctionEnv scope X.env.globals cl [] X.env.qual none .none (some X.env)) (fun V7 s4=>Z1 (u_ X.prog X.w) X.A (.compStart (.ListComp elt [⟨tg,iter,ifs,0⟩] scope pos) 0 (.ref it) acc { V7 with scope:=ĥ scope X.env }) (RR acc V7.locals) s4) E s3) E s2:=by
 refine Zc (wpAny_newFunctionEnv sc.nocell (by intro y hy;simp at hy) (fun I Cl BT=>?_) sc.kind)
 dsimp only at Cl BT ⊢
 generalize V8:s2.heap.push { cls:=.type "list",dict:=none,data:=.seq ([]:List Value).toArray }=HH at Cl BT ⊢;have hC:HH.objs.size=s2.heap.objs.size+1:=by rw[<-V8,H_]
 have Wj:s2.heap.objs.size≠HH.objs.size:=by rw[hC];exact z_ (Zi _)
 have U:s2.heap.objs.size<=HH.objs.size:=by rw[hC];exact Ċ _
 have O:∀b,b<s2.heap.objs.size->b≠HH.objs.size/\b≠s2.heap.objs.size:=fun b k=>⟨by rw[hC];exact z_ (Y2 k),z_ k⟩
 have old:∀b o,s2.heap.get? b=some o->I.get? b=some o:=fun b o e=>BT.extBut b o (O b (o_ e)).1 (a_ _ (V8▸a_ _ e));have Wl:I.get? s2.heap.objs.size=some { cls:=.type "list",dict:=none,data:=.seq ([]:List Value).toArray }:=BT.extBut _ _ Wj (a_ _ (V8▸i_ _ rfl));have ac:H2 s2.heap.objs.size=none:=I2.hok.fresh (q_ _);have Id:∀b∈fp,dG X pz H2 b/\b<s2.heap.objs.size:=fun b k=>⟨hf b k,by obtain⟨o,e,_⟩:=T.obj 0 s2.heap st b k;exact o_ e⟩
 have ok:=Lb (fp:=fp) I2 sc h1 h2 Id U;generalize L:de X s2 H2 N' scope cl HH.objs.size fp=f at ok;have Wm:G2 s2.heap.objs.size=none:=si.gok.isN ac;have w0:Grow X.K G2 H2 G2 (aO H2 s2.heap.objs.size (.lst [])):=Grow.new si.gok ac _;have Wn:cS X.prog X.w (aO H2 s2.heap.objs.size (.lst [])) I:=I2.hok.laid old (q_ _) ⟨YQ _,[],0,.nil,Wl⟩;have IC:Inv f [] (dS nl cap σ) (aO H2 s2.heap.objs.size (.lst [])) { s2 with heap:=I,toks:=s2.toks+([]:List (Str×Value)).length }:=by
  subst L;refine La I2 ok sc h1 h2 hN rfl I2.bare old Cl U ?_ (fun b k S=>?_) (Un.laid old (q_ _) ac) Wn
  .rw[bN (ZM Wj)];exact I2.hok.fresh U
  .rw[bN (O b S).2];exact k
 have SC:SI f ⟨G2,H2,fun _=>none⟩ (aL nl cap m) (bO nl cap r) G2 (dS nl cap σ) (aO H2 s2.heap.objs.size (.lst [])):=by subst L;exact VM si w0
 have Wa:tn 0 I:=T.keep _ _ _ st fun b _ o e=>old b o e;have KK:∀(l:Hp),(∀b∈fp,l b=none)->∀b∈fp,dG f [] l b:=fun l hn b k=>by
  clear IC SC;subst L;obtain⟨z0,z1,z2,z3,z4,z5⟩:=hf b k;refine⟨hn b k,?_,?_,?_,?_,?_⟩
  .exact(O b (Id b k).2).1
  .intro hfs;rcases s_.mp (I2.stkSub b hfs)with z|z
   .exact z1 z
   .exact z2 z
  .exact .inl k
  .exact fun x c e=>z4 x c (h1 x c e)
  .intro p hp;exact Q_g (show p∈([]:List (Addr×Obj))from hp) (by simp)
 have eA:f.A=X.A:=Eq.rec (motive:=fun z _=>z.A=X.A) rfl L;have eP:f.prog=X.prog:=Eq.rec (motive:=fun z _=>z.prog=X.prog) rfl L;have eW:f.w=X.w:=Eq.rec (motive:=fun z _=>z.w=X.w) rfl L;have eK:f.K=X.K:=Eq.rec (motive:=fun z _=>z.K=X.K) rfl L;have eX:f.xe=fun _ _=>False:=Eq.rec (motive:=fun z _=>z.xe=fun _ _=>False) rfl L;have eE:f.env=Ă scope cl HH.objs.size X.env:=Eq.rec (motive:=fun z _=>z.env=Ă scope cl HH.objs.size X.env) rfl L;have eC:f.calm=true:=Eq.rec (motive:=fun z _=>z.calm=true) Wb L;have eH:f.H₀=H2:=Eq.rec (motive:=fun z _=>z.H₀=H2) rfl L;have Wd:PG f tg (tG f ⟨G2,H2,fun _=>none⟩ (aL nl cap m) (aL nl cap m) ft):=Eq.rec (motive:=fun z _=>PG z tg (tG z ⟨G2,H2,fun _=>none⟩ (aL nl cap m) (aL nl cap m) ft)) (hg _).2 L;have hq':jK f ⟨G2,H2,fun _=>none⟩ (aL nl cap m) ifs q:=Eq.rec (motive:=fun z _=>jK z ⟨G2,H2,fun _=>none⟩ (aL nl cap m) ifs q) (hq _) L;have We:PE f elt (Di El f ⟨G2,H2,fun _=>none⟩ (aL nl cap m) fe):=Eq.rec (motive:=fun z _=>PE z elt (Di El z ⟨G2,H2,fun _=>none⟩ (aL nl cap m) fe)) (he _) L;have Wo:∀{l:Hp}{P:c_}{σ':L2.St}{F:GH}{s:List V},Inv f [] σ' l P->Grow X.K G2 H2 F l->l s2.heap.objs.size=some (.lst s)->F s2.heap.objs.size=none->Rl s2.heap.objs.size F l s vs->RR (.ref s2.heap.objs.size) HH.objs.size (.ok .next) P:=fun{l P σ' F s} J1 wg hpp hgp rs=>by
  clear IC SC KK Wd hq' We eA eP eW eK eX eE eC eH;subst L;have un:=J1.base;refine Wq _ _ P l F ?_ (let⟨mm,hn,_⟩:=J1.loc;⟨mm,hn⟩) J1.free (YS (B_ I2.lt U)) (Y1 I2.sz U) (fun x c e z=>?_) (fun z hz e=>?_) wg ac ⟨_,hpp,hgp,rs⟩
  .refine I2.call' J1.os un J1.hok J1.bare fun b k=>?_;obtain⟨z0,z1,z2,z3,z4,z5⟩:=hf b k;exact⟨z3,z1,z4,z5⟩
  .obtain⟨v,o,ho,_⟩:=I2.cell x c e;exact Q_g (B_ (o_ ho) U) (by rw[z];exact YY _)
  .have:=(I2.pin z hz).1;exact Q_g (B_ (o_ this) U) (by rw[e];exact YY _)
 have loop:Z1 (u_ X.prog X.w) X.A (.compLoop (.ListComp elt [⟨tg,iter,ifs,0⟩] scope pos) 0 (.ref it) (.ref s2.heap.objs.size) (Ă scope cl HH.objs.size X.env)) (RR (.ref s2.heap.objs.size) HH.objs.size)
   { s2 with heap:=I,toks:=s2.toks+([]:List (Str×Value)).length }:=by
  refine NE (fun n P=>∃(i:Nat)(σ':L2.St)(l:Hp)(F:GH)(s:List V)(M rest:List D),Inv f [] σ' l P/\SI f ⟨G2,H2,fun _=>none⟩ (aL nl cap m) (bO nl cap r) F σ' l/\tn i P.heap/\(∀b∈fp,l b=none)/\Grow X.K G2 H2 F l /\l s2.heap.objs.size=some (.lst s)/\F s2.heap.objs.size=none/\Rl s2.heap.objs.size F l s M/\hV ft q fe (bO nl cap r) (ds.drop i)=.ok rest/\vs=M++rest/\M.length<=i/\i<=ds.length/\n=ds.length-i) ?_ ds.length
   ⟨0,_,_,G2,[],[],vs,IC,SC,Wa,fun b k=>?_,w0,bV,Wm,R0 _ _ _,Wk,rfl,q_ _,YQ _,rfl⟩
  rotate_left
  .rw[bN (O b (Id b k).2).2];exact(hf b k).1
  rintro n s3 ⟨i,σ3,H3,G3,s,M,rest,I3,S3,st3,fr3,w3,hp3,hg3,rs3,a,hv3,hd3,hi3,rfl⟩
  have Z:∀{α:Type}{t:Sem α}{Q:α->c_->Prop}{P:c_}{E':Value->c_->Prop},p_ (u_ f.prog f.w) f.A t Q f.xe P->p_ (u_ X.prog X.w) X.A t Q E' P:=fun h=>by rw[eP,eW,eA,eX]at h;exact Z8 h (fun _ _ z=>z) fun _ _ z=>z.elim
  by_cases S:i<ds.length
  .have hd:ds.drop i=ds[i]::ds.drop (i+1):=Ī S;rw[hd]at a;unfold hV at a;have Wf:=T.item f eP eW eK eC i [] s3 σ3 H3 (Â (u_ X.prog X.w) X.A (Ă scope cl HH.objs.size X.env) fun e P=>RR (.ref s2.heap.objs.size) HH.objs.size (.error e) P) I3 (KK H3 fr3) st3 (Y.go G3 H3 i w3 S);rw[eA]at Wf;refine aW Wf fun rr s4 ⟨u,hr,h4⟩=>?_;subst hr;refine aW h4 fun _ s5 g=>?_;obtain⟨x,H5,I5,r5,y5,st5,fr5⟩:=g;obtain⟨G5,w5,Wt⟩:=Y.yld G3 H3 i x H5 ds[i] w3 y5 (g_ S);have Wz:=w3.trans w5;cases LE:ft ds[i] (bO nl cap r)with
  |none=>rw[LE]at a;cases a
  |some r1=>
    rw[LE]at a;simp only[opt_some,bind_ok]at a;have WB:=I5.pinned (KK H5 fr5) (T.obj _ _ st5);have S5:SI f ⟨G2,H2,fun _=>none⟩ (aL nl cap m) (bO nl cap r) G5 σ3 H5:=S3.grow (by rw[eK];exact w5);have Wp:RG f.K G5 x ds[i]:=by rw[eK];exact Wt
    have Wg:=Wd _ s5 σ3 H5 x u (fun B H6=>H6=H5/\SI f ⟨G2,H2,fun _=>none⟩ (aL nl cap m) r1 G5 B H5) WB r5 ⟨bO nl cap r,G5,ds[i],S5,Wp,r1,LE,fun B Wy=>⟨rfl,Wy⟩⟩;rw[eE]at Wg;refine aW (Z Wg) fun _ s6 W=>?_;obtain⟨B,H6,I6,e6,S6⟩:=W;subst e6;obtain⟨WE,Wx⟩:=WF _ _ _ LE;cases LT:q r1 with
   |stuck=>rw[LT]at a;cases a
   |exc xx=>rw[LT]at a;cases a
   |ok b1=>
     rw[LT]at a;simp only[bind_ok]at a;have Wi:=hq' _ s6 B H6 (fun b H7=>b=b1/\∃G7,Grow X.K G5 H6 G7 H7) I6 ⟨r1,G5,S6,by rw[LT];exact fun G7 H7 w7=>⟨rfl,G7,by rw[eK]at w7;exact w7⟩⟩;rw[eE]at Wi;refine aW (Z Wi) fun b s7 J=>?_;obtain⟨H7,I7,eb,G7,w7⟩:=J;subst eb;have S7:SI f ⟨G2,H2,fun _=>none⟩ (aL nl cap m) r1 G7 B H7:=S6.grow (by rw[eK];exact w7);have V9:=Wz.trans w7;have ST:H7 s2.heap.objs.size=some (.lst s):=w7.he _ _ (w5.he _ _ hp3);have Wc:G7 s2.heap.objs.size=none:=by rw[w7.gf _ (by rw[w5.he _ _ hp3];simp),w5.gf _ (by rw[hp3];simp)];exact hg3
     have back:∀{Ty:L2.St}{R:Hp}{G8:GH}{s8:c_},Inv f ([]++rY fp s5.heap) Ty R s8->Inv f [] Ty R s8/\tn (i+1) s8.heap/\∀b∈fp,R b=none:=fun{Ty R G8 s8} I8=>by refine⟨I8.unpinned,T.keep _ _ _ st5 fun b k o e=>(I8.pin (b,o) (YL _ (YL _ (tF k e)))).1,fun b k=>?_⟩;obtain⟨o,e,_⟩:=T.obj _ _ st5 b k;exact(I8.pin (b,o) (YL _ (YL _ (tF k e)))).2.1
     have less:∀{Ty:L2.St}{R:Hp}{G8:GH},SI f ⟨G2,H2,fun _=>none⟩ (aL nl cap m) r1 G8 Ty R->SI f ⟨G2,H2,fun _=>none⟩ (aL nl cap m) (bO nl cap r) G8 Ty R:=fun h=>h.less WE.symm fun j d hj=>by
      by_cases Wu:j<nl
      .exact Q_g hj (Ry Wu d)
      .rw[Wx j (by omega)];exact hj
     cases b with
    |false=>rw[Q_f y_]at a ⊢;obtain⟨Wv,t7,f7⟩:=back (G8:=G7) I7;exact⟨ds.length-(i+1),by omega,i+1,B,H7,G7,s,M,rest,Wv,less S7,t7,f7,V9,ST,Wc,Rg rs3 (w5.trans w7),a,hv3,by omega,S,rfl⟩
    |true=>rw[Q_e rfl]at a ⊢;cases Tm:fe r1 with
     |stuck=>rw[Tm]at a;cases a
     |exc xx=>rw[Tm]at a;cases a
     |ok d1=>rw[Tm]at a;simp only[bind_ok]at a;cases er:hV ft q fe (bO nl cap r) (ds.drop (i+1))with
      |stuck=>rw[er]at a;cases a
      |exc xx=>rw[er]at a;cases a
      |ok rest'=>
        rw[er]at a;simp only[bind_ok]at a;cases a;have Wh:=We _ s7 B H7 (fun v R=>∃G8,Grow X.K G7 H7 G8 R/\El X.K G7 H7 G8 R v d1) I7 ⟨r1,G7,S7,by rw[Tm];exact fun v G8 R w8 rv=>⟨G8,by rw[eK]at w8;exact w8,by rw[eK]at rv;exact rv⟩⟩;rw[eE]at Wh;refine aW (Z Wh) fun u8 s8 N=>?_;obtain⟨v8,R,I8,r8,G8,w8,rv8⟩:=N;have WA:R s2.heap.objs.size=some (.lst s):=w8.he _ _ ST;have V6:G8 s2.heap.objs.size=none:=by rw[w8.gf _ (by rw[ST];simp)];exact Wc
        have S8:SI f ⟨G2,H2,fun _=>none⟩ (aL nl cap m) r1 G8 B R:=S7.grow (by rw[eK];exact w8);have hlen:=Rn rs3;have Ww:=jr (X:=f) _ s8 B R (.ref s2.heap.objs.size) [v8] (.ref s2.heap.objs.size) [u8] (fun v H9=>H9=aO R s2.heap.objs.size (.lst (s++[v8]))) I8 rfl (.cons r8 .nil) ⟨_,s,v8,rfl,rfl,WA,by omega,rfl⟩;refine aW (Z Ww) fun u9 s9 C=>?_;obtain⟨v9,H9,I9,r9,e9⟩:=C;subst e9;obtain⟨WC,t9,f9⟩:=back (G8:=G8) I9;have Ws:=Ra (Rg rs3 (w5.trans w7)) w8 V9 ST rv8;have IO:=V9.trans w8;refine⟨ds.length-(i+1),by omega,i+1,B,_,G8,s++[v8],M++[d1],rest',WC,less (S8.other V6 ac NB _),t9,f9,?_,bV,V6,Ws,er,by rw[hv3,List.append_assoc];rfl,by rw[D_,Yz];omega,S,rfl⟩;refine⟨fun b e k=>(IO.ok b e k).mono (fun _ _ z=>z) fun o z=>?_,fun b o k=>?_,IO.ge,IO.gf⟩
        .rw[bN (by rintro rfl;rw[V6]at k;cases k)];exact z
        .rw[bN (by rintro rfl;rw[ac]at k;cases k)];exact IO.he b o k
  .have e:i=ds.length:=by omega
   subst e;rw[Į]at a;cases a;rw[Ú]at hv3;subst hv3;have dn:=T.done f eP eW eK eC ds.length [] s3 σ3 H3 (Â (u_ X.prog X.w) X.A (Ă scope cl HH.objs.size X.env) fun e P=>RR (.ref s2.heap.objs.size) HH.objs.size (.error e) P) I3 (KK H3 fr3) st3 (Y.stop G3 H3 w3);rw[eA]at dn;refine aW dn fun rr s4 ⟨hr,I4⟩=>?_;subst hr;exact Wo I4 w3 hp3 hg3 rs3
 exact codeAny_compStart_list loop (T.self X.A 0 _ _ _ Wa loop)
end
def qE:Res (List D)->Res (List D)
|.ok d=>.ok d
|_=>.stuck
@[simp] theorem noXL_ok(d:List D):qE (.ok d)=.ok d:=rfl
def db(nl:Nat)(cap:List Nat)(fi:FI)(ft:FT)(q:FQ)(fe:FE):FE:=fun r=>(fi r).bind fun ds=>(dD (sz ds)).bind fun ds=>(qE (hV ft q fe (bO nl cap r) ds)).bind fun vs=>.ok (.lst vs)
section
variable{spos:Pos}{fi:FI}
theorem IH(h:fin (db nl cap fi ft q fe r) P x):fin (fi r) (fun ds=>∃vs,ds.length<=sizeLine/\hV ft q fe (bO nl cap r) ds=.ok vs/\P (.lst vs)) x:=by refine bu (bv h) fun ds a=>?_;obtain⟨Y,b,L⟩:=cJ (bv a);obtain⟨rfl,Z⟩:=wC b;cases U:hV ft q fe _ Y with
|ok vs=>rw[U]at L;exact⟨vs,Z,rfl,L⟩
|exc x=>rw[U]at L;exact L.elim
|stuck=>rw[U]at L;exact L.elim
theorem CompSc.clo{pz:List (Addr×Obj)}{σ:L2.St}{H:Hp}{s:c_}(U:CompSc X scope N' nl cap)(Y:X.Ok):∃L,Qfa scope X.env=pure L/\(∀x c,L.lookup x=some c->X.env.cells.lookup x=some c)/\(∀x,(x,NameKind.free)∈scope.names->∃c,L.lookup x=some c):=Ts fun y Z a=>Y.has y.1 (U.freeK y Z a)
theorem wY(hN:X.N.Nodup)(L:X.calm=true)(u:CompSc X scope N' nl cap)(hi:fg X g m tg iter fi)(hg:∀l n j C fp g',SG (de X l n N' scope j C fp) g' (aL nl cap m) tg ft (aL nl cap m))(Id:iQ ft nl)(hq:∀l n j C fp g',jK (de X l n N' scope j C fp) g' (aL nl cap m) ifs q)(he:∀l n j C fp g',SE (de X l n N' scope j C fp) g' (aL nl cap m) elt fe)(hs:∀x,Zb iter X.env x=pure x:=by intro _;rfl):SO X g m (.ListComp elt [⟨tg,iter,ifs,0⟩] scope pos) (db nl cap fi ft q fe):=by
 intro pz s σ H Q I h;obtain⟨r,G,M,k⟩:=h;obtain⟨j,E,h1,h2⟩:=u.clo (pz:=pz) (σ:=σ) (H:=H) (s:=s) I.ok;have k1:=IH k;refine Qcx rfl hs E u.kind u.names (aW (hi pz s σ H (fun J f=>∃c i t,Grow X.K G H c f/\YieldsC X.K J i c f/\i.length<=sizeLine/\hV ft q fe _ i=.ok t /\(∀a c f,Grow X.K G H c f->H a=none->Own X.K c f a _->Q _ f)) I ⟨r,G,M,bu k1 fun i ⟨t,z1,z2,z3⟩ J c f w y=>⟨c,i,t,w,y,z1,z2,z3⟩⟩) fun v s1 hv=>aW hv fun itv s2 KK=>?_);obtain⟨it,fp,tn,J,H2,rfl,I2,T,P,hf,G2,i,t,z,Y,A,U,hQ⟩:=KK;refine JQ (El:=fun K _ _ c _ v d=>RG K c v d) (Rl:=fun _ G _ F i=>bJ X.K G F i) (fun _ _ _=>.nil) (fun h w=>h.mono w.ge) Paired.length (fun h w _ _ e=>Paired.snoc (h.mono w.ge) e) hN L u h1 h2 I2 (M.grow z) T P hf Y A (by grind) Id (by grind) (fun C=>he _ _ _ _ _ _) U ?_;intro p C s' f c I' ac LE BT Cl Z IO O hp ⟨F,S,R,o3⟩;have ho:Own X.K c f p _:=⟨R,.lst S o3⟩
 obtain⟨W,hn⟩:=ac;refine⟨W,hn,fun h' B=>⟨.ref p,f,?_,rfl,hQ p c f (z.trans O) (z.back hp) ho⟩⟩;exact I'.turned (fun b o hb e=>B.extBut b o hb e) LE BT.symm.symm (.inr Cl) Z IO
theorem IE(i:Nat)(hN:X.N.Nodup)(L:X.calm=true)(hy:X.N[i]? = some y)(U:X.env.scope.names.lookup y=some .local)(E:CompSc X scope N' nl cap)(hi:fg X g m tg iter fi)(hg:∀t u l C fp g',SG (de X t u N' scope l C fp) g' (aL nl cap m) tg ft (aL nl cap m))(KK:iQ ft nl)(hq:∀t u l C fp g',jK (de X t u N' scope l C fp) g' (aL nl cap m) ifs q)(he:∀t u l C fp g',SE (de X t u N' scope l C fp) g' (aL nl cap m) elt fe)(IO:ï (.ListComp elt [⟨tg,iter,ifs,0⟩] scope pos) (some (.Name y pos')) spos.line X.env=pure true:=by rfl)(hs:∀x,Zb iter X.env x=pure x:=by intro _;rfl):SS X g ro mb m (.Assign [.Name y pos'] (.ListComp elt [⟨tg,iter,ifs,0⟩] scope pos) spos) (aY m i (db nl cap fi ft q fe)) (m.set i .ow):=by
 refine⟨by simp,?_⟩;intro pz s σ H D0 I h;obtain⟨r,G,B,k⟩:=h;obtain⟨l,O,h1,h2⟩:=E.clo (pz:=pz) (σ:=σ) (H:=H) (s:=s) I.ok;have k1:=IH (fY B (by simp) k);rw[exec_Assign_Name_used _ _ _ _ IO];refine Q_a (ĸ (Q_a ?_));refine Q_a (Z8 (Qcx rfl hs O E.kind E.names (aW (hi pz s σ H (fun J f=>∃c j A,Grow X.K G H c f/\YieldsC X.K J j c f/\j.length<=sizeLine/\hV ft q fe _ j=.ok A /\(∀n c f,bI G c->SI X g _ _ c n f->D0.nx n f)) I ⟨r,G,B,bu k1 fun j ⟨A,z1,z2,z3⟩ J c f w y=>⟨c,j,A,w,y,z1,z2,z3⟩⟩) fun v s1 hv=>aW hv fun itv s2 LT=>?_)) (fun _ W hq=>e_ (e_ hq)) fun _ _ e=>e);obtain⟨it,fp,tn,J,H2,rfl,I2,T,R,hf,G2,j,A,z,Y,F,Z,hQ⟩:=LT;refine JQ (El:=fun K _ _ c _ v d=>RG K c v d) (Rl:=fun _ G _ P j=>bJ X.K G P j) (fun _ _ _=>.nil) (fun h w=>h.mono w.ge) Paired.length (fun h w _ _ e=>Paired.snoc (h.mono w.ge) e) hN L E h1 h2 I2 (B.grow z) T R hf Y F (by simp_all) KK (by simp_all) (fun C=>he _ _ _ _ _ _) Z ?_;intro p C W f c I' Cl ST Ty Tm BT LE Q hp ⟨P,o1,o2,o3⟩;have ho:Own X.K c f p _:=⟨o2,.lst o1 o3⟩
 obtain⟨mm,hn⟩:=Cl;refine Qeg (Jm I' hN hy (.inl U) (v:=.ref p) rfl (fun S V6 ⟨a,M,ha⟩=>?_) (.inr U));have Id:C≠a:=by grind
 refine⟨mm,hn.sameBut M Id,fun h' ac=>?_⟩;refine⟨_,f,V6.turned (fun b o hb e=>ac.extBut b o hb e) ST Ty (.inr Tm) BT LE,?_⟩;exact hQ _ c f (z.trans Q).ge (B.setN (z.trans Q) i (z.back hp) ho)
end
def jN(K:W.Frag)(r:V->List V->Hp->VK->Prop)(mk:D->List D->Option D):Prop:=∀(G:GH)(H:Hp)(a:Addr)(d:D)(vs:List V)(ds:List D)(d':D)(Q:VK),bi K G H->Own K G H a d->bJ K G vs ds->mk d ds=some d' ->(∀o',OwnO K G (aO H a o') a d'->Q .non (aO H a o'))->r (.ref a) vs H Q
def qg(T:String):D->Bool
|.lst _=>T == "list"
|.dic _=>T == "dict"
|_=>false
def dq(T:String)(m:List Md)(i:Nat)(fl:am->Res (List D))(mk:D->List D->Option D):FS:=fun r=>match r[i]? with
|some (some d)=>if qg T d=true then iG m r (fl r) fun ds=>(match mk d ds with
 |some d'=>.nx (r.set i (some d'))
 |none=>.stuck)else .stuck
|_=>.stuck
theorem FY{a:Addr}(o:Own K G H a d)(t:qg T d=true):nW K T (.ref a) H:=by cases o.ob with
|lst r s=>exact .inl ⟨í t,_,bp.of r⟩
|dic r s=>exact .inr (.inr (.inl ⟨í t,.inl ⟨_,.inl r⟩⟩))
variable{o:Expr}
section
variable{apos cpos:Pos}{x name:Str}{R:V->List V->Hp->VK->Prop}{mk:D->List D->Option D}
theorem Q5(i:Nat)(j:m[i]? = some .ow)(z:jN X.K R mk){q:Ends}(h:tS X g ro m m mb (dq T m i fl mk) q σ H):∃v,σ[i]? = some (some v)/\nW X.K T v H/\tL X g m fl σ H fun xs B=>R v xs B fun _ C=>q.nx σ C:=by obtain⟨r,G,b,k⟩:=h;unfold dq at k;cases Z:r[i]? with
|none=>simp only[Z]at k;exact(k).elim
|some u=>cases u with
 |none=>simp only[Z]at k;exact(k).elim
 |some d=>
   simp only[Z]at k;by_cases e:qg T d=true
   .rw[Q_e e]at k;obtain⟨a,l,A,F⟩:=b.mut j Z;refine⟨_,l,FY A e,r,G,b,bu (fY b rfl k) fun n c s p E w t=>?_⟩;cases f:mk d n with
   |none=>simp only[f]at c;exact(c).elim
   |some o=>simp only[f]at c;obtain⟨I,L,Y,U⟩:=(b.grow w).mut j Z;rw[l]at L;cases L;exact z p E a d s n o _ w.ok Y t f fun y x=>c σ p _ w.ge (U y o x)
   .rw[Q_f e]at k;exact(k).elim
theorem iV(i:Nat)(d:m[i]? = some .ow)(b:ľ T)(a:Slot T name id)(n:typeOf (.builtin id)=pure (.type "method_descriptor"))(p:mS X id R)(f:jN X.K R mk)(hN:X.N[i]? = some x)(c:ik X.env.scope x)(k:SA X g m (e::es) fl)(j:(x==("__debug__" : Str))=false:=by decide)(o:(x==("__classdict__" : Str))=false:=by decide)(U:Ì (.Name x pos') name X.env (eval (.Name x pos') X.env)=eval (.Name x pos') X.env:=by rfl)(Z:((backTo cpos (f_ (e::es) X.env)).all (fun x=>! x.1)&&(Ò cpos (Ð [] X.env)).all (fun x=>x.1.isSome)&&decide ((e::es).length+([]:List À).length+(if ([]:List À).isEmpty then 0 else 1)<30))=true:=by rfl)(Y:(apos.endLine==cpos.line)=true:=by rfl)(l:f_ (e::es) X.env=(false,eval e X.env)::f_ es X.env:=by rfl)(L:(backTo cpos (f_ es X.env)).any (·.1)=false:=by rfl):SS X g ro mb m (.Expr (.Call (.Attribute (.Name x pos') name apos) (e::es) [] cpos) pos) (dq T m i fl mk) m:=⟨rfl,PS.imp (GI (vX b a n p (lq hN c j o) k U Z Y l L)) fun r q H h=>Q5 i d f h⟩
def appD:D->List D->Option D
|.lst ds,[d]=>if ds.length<sizeLine then some (.lst (ds++[d]))else none
|_,_=>none
theorem jS:jN K GK appD:=by
 intro G H a d Z c f Q b Y L e q;unfold appD at e;split at e
 .split at e
  .cases e;cases Y.ob with
  |lst r s=>cases L with
   |cons U t=>cases t;have:=Paired.length s;exact⟨a,_,_,rfl,rfl,r,by omega,q _ (.lst bV (Paired.snoc s U))⟩
  .cases e
 .cases e
def vC(x:Int)(n:Nat):Nat:=if x<0 then(x+(n:Int)).toNat else min x.toNat n
def cK{α:Type}(xs:List α)(x:Int)(y:α):List α:=xs.take (vC x xs.length)++y::xs.drop (vC x xs.length)
def Hq:V->List V->Hp->VK->Prop:=fun x vs H Q=>∃l xs i y,x=.ref l/\vs=[.int i,y]/\H l=some (.lst xs)/\-(2^63)<=i/\i<2^63/\xs.length<sizeLine/\Q .non (aO H l (.lst (cK xs i y)))
theorem R1:mS X "list.insert" Hq:=by
 intro p s j H x m v o Q I b c h;obtain⟨l,k,i,y,rfl,rfl,Z,g,f,w,q⟩:=h;cases b;obtain⟨u,Y,rfl,⟨t,rfl⟩,a⟩:=rE c;obtain⟨z,U,n,r,d,e⟩:=I.lstM Z;have L:¬(! QaL i)=true:=by rw[fitsIndex_both g f];grind
 refine õ Qcy ⟨_,e,rfl⟩ PySem.F.entry_list_insert (PySem.F.args_list_insert_3 _ _ _) (AutoListH.list_insert_list_int_val_1 l U.toArray n i t Y L (by simp_all)) ⟨e,?_⟩;refine⟨.non,_,I.lset (its':=cK U i Y) Z e ?_ ?_ ?_,rfl,q⟩
 .rw[A_];unfold cK vC
  grind
 .unfold cK;rw[d];exact ar.append (r.take _) (.cons a (r.drop _))
 .unfold cK
  grind
def insD:D->List D->Option D
|.lst ds,[.int i,d]=>if ds.length<sizeLine/\-(2^63)<=i/\i<2^63 then some (.lst (cK ds i d))else none
|_,_=>none
theorem Mn{r:List U}{x:Y}(h:Paired F l r)(i:Int)(L:F x y):Paired F (cK l i x) (cK r i y):=by unfold cK;rw[Paired.length h];exact Paired.app (Paired.tk _ h) (.cons L (Paired.dr _ h))
theorem Mo:jN K Hq insD:=by
 intro G H a d c f g Q b Z L e q;unfold insD at e;split at e
 .split at e
  .rename_i hl;cases e;cases Z.ob with
  |lst r s=>cases L with
   |cons Y t=>cases t with
    |cons U t=>cases t;have:=Paired.length s;exact⟨a,_,_,_,rfl,by rw[Y.int b],r,hl.2.1,hl.2.2,by omega,q _ (.lst bV (Mn s _ U))⟩
  .cases e
 .cases e
end
def cN:D->Bool
|.non=>true
|.bl _=>true
|.int _=>true
|.str _=>true
|_=>false
def iz:D->V
|.non=>.non
|.bl b=>.bl b
|.int i=>.int i
|.str x=>.str x
|_=>.non
def gZ(a b:D):Bool:=iL (iz a) (iz b)
theorem RB.flat(h:RB K G H v d)(L:bi K G H)(U:cN d=true):v=iz d/\gm v=true:=by cases d with
|non=>rw[h.non L];exact⟨rfl,rfl⟩
|bl b=>rw[h.bl L];exact⟨rfl,rfl⟩
|int i=>rw[h.int L];exact⟨rfl,rfl⟩
|str x=>rw[h.str L];exact⟨rfl,rfl⟩
|_=>cases U
theorem Ed(h:bJ K G xs ds)(U:bi K G H)(L:ds.all cN=true):xs=ds.map iz/\xs.all gm=true:=by induction h with
|nil=>exact⟨rfl,rfl⟩
|cons r t Y=>
  rw[ĝ,R_]at L;obtain⟨a,Z⟩:=RB.flat r.rb U L.1
  grind
def fP:D->Option aU
|.int i=>some (.inl i)
|.str x=>some (.inr x)
|_=>none
def fQ(kvs:List (aU×D))(k:aU):Bool:=kvs.any fun kv=>decide (kv.1=k)
def cf(kvs:List (aU×D))(k:aU):Option D:=(kvs.find? fun kv=>decide (kv.1=k)).map (·.2)
def jc(x c:D):Option Bool:=match c with
|.lst ds=>if cN x=true/\ds.all cN=true then some (ds.any fun y=>gZ y x)else none
|.tup ds=>if cN x=true/\ds.all cN=true then some (ds.any fun y=>gZ y x)else none
|.dic kvs=>(fP x).map (fQ kvs)
|.str y=>match x with
 |.str z=>some (!(ZR y z 0 y.length 1).isEmpty)
 |_=>none
|_=>none
def jb(x c:D):Option D:=(jc x c).map .bl
def iH(x c:D):Option D:=(jc x c).map fun b=>.bl (! b)
theorem FH(h:gl K G ps U)(d:D)(e:cf U k=some d):∃v,dk ps k=some v/\RG K G v d:=by induction h with
|nil=>cases e
|@cons p q ps U r t c=>
  obtain⟨b,Z⟩:=p;obtain⟨j,l⟩:=q;obtain⟨i,a⟩:=r;have L:=i;subst L;by_cases Y:b=k
  .subst Y;have:=by simpa[cf,Y4]using e
   subst this;exact⟨Z,sQ rfl,a⟩
  .have e':cf U k=some d:=by simpa[cf,Y4,Y]using e
   obtain⟨v,g,f⟩:=c e';exact⟨v,by rw[pB Y];exact g,f⟩
theorem Q9(h:gl K G ps U)(e:cf U k=none):dk ps k=none:=by induction h with
|nil=>rfl
|@cons p q ps U r t a=>
  obtain⟨Z,c⟩:=p;obtain⟨f,g⟩:=q;obtain⟨b,d⟩:=r;have L:=b;subst L;by_cases Y:Z=k
  .subst Y;simp[cf,Y4]at e
  .have e':cf U k=none:=by simpa[cf,Y4,Y]using e
   rw[pB Y];exact a e'
theorem MK(L:List (aU×D))(k:aU):fQ L k=(cf L k).isSome:=by induction L with
|nil=>rfl
|cons p r U=>
  by_cases e:p.1=k
  .simp[fQ,cf,Y4,e]
  .have h1:fQ (p::r) k=fQ r k:=by simp[fQ,e]
   have Y:cf (p::r) k=cf r k:=by simp[cf,Y4,e]
   rw[h1,Y,U]
theorem wU(L:bi K G H)(h:RB K G H v d)(e:fP d=some k):v=kV k:=by cases d with
|int i=>cases e;exact h.int L
|str x=>cases e;exact h.str L
|_=>cases e
def mE(neg:Bool):R2:=fun y x H Q=>∃a o,x=.ref a/\iR H a y o/\Q (.bl (if neg then ! o.isSome else o.isSome)) H
theorem Mb(Y:X.A.units+1<Z9):br X (YK .In) (mE false):=by intro e s c H y x u v Q I L U h;obtain⟨a,f,rfl,Z,q⟩:=h;cases U;exact DM Y I Z L fun d b=>⟨.bl _,H,b,rfl,q⟩
theorem O5(Y:X.A.units+1<Z9):br X (YK .NotIn) (mE true):=by intro e s c H y x u v Q I L U h;obtain⟨a,f,rfl,Z,q⟩:=h;cases U;exact NG Y I Z L fun d b=>⟨.bl _,H,b,rfl,q⟩
def iC(K:W.Frag)(neg:Bool):R2:=fun x y H Q=>Du K neg x y H Q\/mE neg x y H Q\/∃i j,x=.str i/\y=.str j/\Q (.bl (if neg then !(!(ZR j i 0 j.length 1).isEmpty)else !(ZR j i 0 j.length 1).isEmpty)) H
theorem Fg(L:X.A.units+1<Z9):br X (YK .In) (iC X.K false):=br.or RM (br.or (Mb L) RN)
theorem O4(L:X.A.units+1<Z9):br X (YK .NotIn) (iC X.K true):=br.or T6 (br.or (O5 L) T7)
theorem Gm(Y:Bool):dU K (iC K Y) (fun x c=>(jc x c).map fun b=>.bl (if Y then ! b else b)):=by
 intro G H o n f w d Q L j i e q;have g:∀{a:List V}{U:List D}{p:Addr},bJ K G a U->n=.ref p->(bp K H p a\/cg K H p a)->cN f=true->U.all cN=true->d=.bl (if Y then !(U.any fun y=>gZ y f)else U.any fun y=>gZ y f)->iC K Y o n H Q:=fun{a U p} rs e2 hs hf hfs ed=>by
  obtain⟨u,f1⟩:=RB.flat j L hf;obtain⟨t,f3⟩:=Ed rs L hfs;refine .inl ⟨p,a,e2,hs,f1,f3,q _ G H (Grow.refl L) ?_⟩;have:uR o a=U.any fun y=>gZ y f:=by unfold uR;rw[t,Ĳ,u];rfl
  rw[this,ed];exact .scl (.bl _)
 cases w with
|lst U=>
  by_cases Z:cN f=true/\U.all cN=true
  .simp only[jc,Q_e Z,Ŗ]at e;obtain⟨p,a,e2,hs,rs⟩:=i.lst L;exact g rs e2 (.inl hs) Z.1 Z.2 (K_ e).symm
  .simp only[jc,Q_f Z,QeS]at e;cases e
|tup U=>
  by_cases Z:cN f=true/\U.all cN=true
  .simp only[jc,Q_e Z,Ŗ]at e;obtain⟨p,a,e2,hs,rs⟩:=i.tup L;exact g rs e2 (.inr hs) Z.1 Z.2 (K_ e).symm
  .simp only[jc,Q_f Z,QeS]at e;cases e
|dic h=>simp only[jc]at e;cases m:fP f with
 |none=>rw[m]at e;cases e
 |some k=>
   rw[m]at e;cases e;obtain⟨p,l,rfl,hs,rs⟩:=i.dic L;refine .inr (.inl ⟨p,dk l k,rfl,by rw[wU L j m];exact .inl ⟨l,k,hs,rfl,rfl⟩,q _ G H (Grow.refl L) ?_⟩);have:(dk l k).isSome=fQ h k:=by rw[MK];cases r:cf h k with
   |none=>rw[Q9 rs r];rfl
   |some d=>obtain⟨v,s,_⟩:=FH rs d r;rw[s];rfl
   rw[this];exact .scl (.bl _)
|str y=>cases f with
 |str z=>cases e;exact .inr (.inr ⟨z,y,j.str L,i.str L,q _ G H (Grow.refl L) (.scl (.bl _))⟩)
 |_=>cases e
|_=>cases e
theorem Er:dU K (iC K false) jb:=by
 have h:=Gm (K:=K) false;have e:(fun x c=>(jc x c).map fun b=>D.bl (if false=true then ! b else b))=jb:=by funext x c;unfold jb;cases jc x c <;> rfl
 exact h
theorem L8:dU K (iC K true) iH:=by
 have h:=Gm (K:=K) true;have e:(fun x c=>(jc x c).map fun b=>D.bl (if true=true then ! b else b))=iH:=by funext x c;unfold iH;cases jc x c <;> rfl
 exact h
theorem Dm(L:X.A.units+1<Z9)(Z:SB X g m a fa)(Y:SB X g m b fb)(U:Z4 .In b=false:=by rfl):SE X g m (.Compare a [.In] [b] pos) (f2 fa fb jb):=nh (Fg L) Er Z Y U
theorem Dv(L:X.A.units+1<Z9)(Z:SB X g m a fa)(Y:SB X g m b fb)(U:Z4 .In b=false:=by rfl):SQ X g m (.Compare a [.In] [b] pos) (bj (f2 fa fb jb)):=ka (Fg L) Er Z Y U
theorem LW(L:X.A.units+1<Z9)(Z:SB X g m a fa)(Y:SB X g m b fb)(U:Z4 .NotIn b=false:=by rfl):SQ X g m (.Compare a [.NotIn] [b] pos) (bj (f2 fa fb iH)):=ka (O4 L) L8 Z Y U
def qG:D->D->Option D
|.non,.non=>some (.bl true)
|_,.non=>some (.bl false)
|_,_=>none
theorem RB.isnon(L:bi K G H)(h:RB K G H v d):(v=.non↔d=.non):=by
 constructor
 .intro e;subst e;rcases h with h|⟨a,e,_⟩
  .cases h with
  |scl s=>cases s;rfl
  .cases e
 .intro e;subst e;exact h.non L
theorem Es:dU K (fun x y H Q=>y=.non/\Q (.bl (decide (x=.non))) H) qG:=by intro G H f c Y b d Q L a Z e q;have U:=a.isnon L;cases b with
|non=>refine⟨Z.non L,q _ G H (Grow.refl L) ?_⟩;cases Y with
 |non=>cases e;rw[Q_d (U.mpr rfl)];exact .scl (.bl _)
 |_=>cases e;rw[Q_c (fun z=>by have:=U.mp z;cases this)];exact .scl (.bl _)
|_=>cases Y <;> cases e
theorem Dl(U:SB X g m a fa)(L:SB X g m b fb):SE X g m (.Compare a [.Is] [b] pos) (f2 fa fb qG):=nh Fh Es U L (iY _)
theorem kD(U:SB X g m a fa)(L:SB X g m b fb):SQ X g m (.Compare a [.Is] [b] pos) (bj (f2 fa fb qG)):=ka Fh Es U L (iY _)
end DL
section
namespace DL
open PySem PySem.Spec PyProof.Rows L2
variable{X:Cx}{g:GE}{m mb:List Md}{e a b o c:Expr}{f fa fb fc:FE}{pos pos':Pos}
section
variable{p1 p2:Pos}{ro:Bool}{x:Str}
def qw:R2:=fun x y H Q=>∃a v,x=.ref a/\iR H a y (some v)/\Q v H
theorem Mq(d:X.A.units+1<Z9):jO X qw:=by intro U Y k s g H x y v u Q I c b h e;obtain⟨a,w,rfl,Z,q⟩:=h;cases c;exact tail_any (T4 I Z) PySem.F.slot_dict_getitem.lookup (Q7 d I Z b fun i j f L=>⟨w,H,f,L,q⟩) e
def aF:D->D->Option D
|.dic kvs,k=>(fP k).bind (cf kvs)
|c,k=>ixD c k
theorem Mp{K:W.Frag}:dU K (fun x y H Q=>qw x y H Q\/Dt K x y H Q) aF:=by intro G H f c p U d Q L Z Y e q;cases p with
|dic g=>obtain⟨a,l,rfl,m,j⟩:=Z.dic L;have b:(fP U).bind (cf g)=some d:=e;cases h:fP U with
 |none=>rw[h]at b;cases b
 |some k=>rw[h]at b;obtain⟨v,o,n⟩:=FH j d b;refine .inl ⟨a,v,rfl,?_,q v G H (Grow.refl L) n⟩;rw[wU L Y h,<-o];exact .inl ⟨l,k,m,rfl,rfl⟩
|lst i=>exact .inr (vE G H f c _ U d Q L Z Y e q)
|tup i=>exact .inr (vE G H f c _ U d Q L Z Y e q)
|str i=>exact .inr (vE G H f c _ U d Q L Z Y e q)
|_=>cases e
theorem cM(L:X.A.units+1<Z9)(Y:SB X g m a fa)(U:SB X g m b fb)(hs:xW b:=by intro _ _;rfl):SE X g m (.Subscript a b pos) (f2 fa fb aF):=vP Mp (LM (jO.or (Mq L) Mr) Y U hs)
theorem Fe:SO X g m (.Dict [] [] pos) fun _=>.ok (.dic []):=PE.imp QK fun U H Q ⟨r,G,L,q⟩ p hp=>q p G _ (Grow.new L.gok hp _) hp ⟨L.gok.isN hp,.dic bV .nil⟩
def eZ(kvs:List (aU×D))(k:aU)(d:D):List (aU×D):=if (kvs.any fun kv=>decide (kv.1=k))=true then kvs.map fun kv=>if kv.1=k then(kv.1,d)else kv else kvs++[(k,d)]
theorem P6{K:W.Frag}(h:gl K G ps L):(ps.any fun U=>decide (U.1=k))=L.any fun U=>decide (U.1=k):=by induction h with
|nil=>rfl
|cons r t Y=>rw[Ç,Ç,Y,r.1]
theorem LU{K:W.Frag}{d:D}(r:gl K G ps L)(h:RG K G v d):gl K G (dC ps k v) (eZ L k d):=by
 unfold dC eZ;rw[P6 r];by_cases U:(L.any fun Y=>decide (Y.1=k))=true
 .rw[Q_e U,Q_e U];clear U
  induction r with
 |nil=>exact .nil
 |@cons p q ps L r t Z=>
   refine .cons ?_ Z
   grind
 .rw[Q_f U,Q_f U];exact Paired.snoc r ⟨rfl,h⟩
def eB:D->D->D->Option D
|.lst ds,.int k,v=>(iI ds.length k).map fun j=>.lst (ds.set j v)
|.dic kvs,k,v=>(fP k).bind fun k=>if kvs.length<sizeLine then some (.dic (eZ kvs k v))else none
|_,_,_=>none
def EN:V->V->V->Hp->(Hp->Prop)->Prop:=fun o i v H Q=>∃p H',o=.ref p/\jP H p i v H'/\Q H'
theorem OO(Z:X.A.units+1<Z9):gC X EN:=by intro f s d H o i v g j u Q I U Y L h;obtain⟨p,c,rfl,a,q⟩:=h;cases U;exact Q8 Z I a Y L fun e b=>⟨c,b,q⟩
theorem gC.or(h:gC X t)(h':gC X t'):gC X (fun o i v H Q=>t o i v H Q\/t' o i v H Q):=by
 intro a s L H o i v b c u Q I Y Z U q;rcases q with q|q
 .exact h a s L H o i v b c u Q I Y Z U q
 .exact h' a s L H o i v b c u Q I Y Z U q
theorem M2{K:W.Frag}{a:Addr}{b Z:V}{Q:Hp->Prop}(n:bi K G H)(p:Own K G H a d)(i:RB K G H b k)(h:RG K G Z v)(e:eB d k v=some d')(q:∀l,OwnO K G (aO H a l) a d'->Q (aO H a l)):EO (.ref a) b Z H Q\/EN (.ref a) b Z H Q:=by cases p.ob with
|@lst o g r s=>cases k with
 |int k=>have U:(iI g.length k).map (fun j=>D.lst (g.set j v))=some d':=e;cases f:iI g.length k with
  |none=>rw[f]at U;cases U
  |some j=>rw[f]at U;cases U;exact .inl ⟨a,o,k,j,rfl,i.int n,r,by rw[Paired.length s];exact f,q _ (.lst bV (Paired.st h j s))⟩
 |_=>cases e
|@dic u L r s=>have U:(fP k).bind (fun k=>if L.length<sizeLine then some (D.dic (eZ L k v))else none)=some d':=e;cases c:fP k with
 |none=>rw[c]at U;cases U
 |some t=>
   rw[c]at U;have Y:(if L.length<sizeLine then some (D.dic (eZ L t v))else none)=some d':=U;by_cases m:L.length<sizeLine
   .rw[Q_e m]at Y;cases Y;have:=Paired.length s;refine .inr ⟨a,_,rfl,?_,q _ (.dic bV (LU s h))⟩;rw[wU n i c];exact jP.k r (by omega)
   .rw[Q_f m]at Y;cases Y
def putF(m:List Md)(i:Nat)(fk fv:FE):FS:=fun r=>iG m r (fv r) fun v=>match r[i]? with
|some (some d)=>iG m r (fk r) fun k=>(match eB d k v with
 |some d'=>.nx (r.set i (some d'))
 |none=>.stuck)
|_=>.stuck
theorem jh(i:Nat)(I:X.A.units+1<Z9)(s:m[i]? = some .ow)(hN:X.N[i]? = some x)(F:ik X.env.scope x)(J:SB X g m b fb)(K:SE X g m e f)(M:(x==("__debug__" : Str))=false:=by decide)(Y:(x==("__classdict__" : Str))=false:=by decide)(O:∀v,ý (.Subscript (.Name x p1) b p2) X.env v=(do
   let ov <-ñ [v] (eval (.Name x p1) X.env);let iv <-ñ [v,ov] (eval b X.env)
   Ą p2
   ñ [v,ov,iv] (setItem ov iv v)
   release [v,ov,iv] []):=by intro _;rfl)(hs:ŷ [.Subscript (.Name x p1) b p2] e pos.line X.env=pure false:=by rfl)(E:Ÿ [.Subscript (.Name x p1) b p2] e X.env=pure none:=by rfl)(p:(Zz [.Subscript (.Name x p1) b p2] X.env).map (·.2)=[ý (.Subscript (.Name x p1) b p2) X.env]:=by rfl):SS X g ro mb m (.Assign [.Subscript (.Name x p1) b p2] e pos) (putF m i fb f) m:=by refine⟨rfl,PS.imp (Fo K (Nx (lq hN F M Y) J (gC.or Qt (OO I)) O) hs E p) fun D0 t H ⟨r,G,c,k⟩=>⟨r,G,c,?_⟩⟩;refine bu (fY c rfl k) fun v h S R H1 j u=>?_;cases l:r[i]? with
|none=>simp only[l]at h;exact(h).elim
|some y=>cases y with
 |none=>simp only[l]at h;exact(h).elim
 |some d=>simp only[l]at h;obtain⟨a,p,h2,W⟩:=(c.grow j).mut s l;refine⟨_,p,r,R,c.grow j,?_⟩;refine bu (fY (c.grow j) rfl (cH.gle h j.ge)) fun C o T Q H2 n w=>?_;cases q:eB d C v with
  |none=>simp only[q]at o;exact(o).elim
  |some P=>simp only[q]at o;obtain⟨a',L,Z,U⟩:=((c.grow j).grow n).mut s l;rw[p]at L;cases L;exact M2 n.ok Z w (u.mono n.ge) q fun B z=>o t Q _ n.ge (U B P z)
end
mutual
def bg:D->PyData
|.non=>.none
|.bl b=>.bool b
|.int i=>.int i
|.str x=>.str x
|.tup ds=>.tuple (zfZ ds)
|.lst ds=>.list (zfZ ds)
|.dic _=>.none
|.obj _ _=>.none
def zfZ:List D->List PyData
|[]=>[]
|d::ds=>bg d::zfZ ds
end
def cn:Nat->D->Prop
|_,.non=>True
|_,.bl _=>True
|_,.int _=>True
|_,.str x=>PyData.strOk x=true
|0,.tup _=>False
|0,.lst _=>False
|k+1,.tup ds=>∀d∈ds,cn k d
|k+1,.lst ds=>∀d∈ds,cn k d
|_,.dic _=>False
|_,.obj _ _=>False
theorem pe:cn (k+1) (.lst ds)↔∀d∈ds,cn k d:=by simp only[cn]
theorem lz:cn (k+1) (.tup ds)↔∀d∈ds,cn k d:=by simp only[cn]
def mL(a b:D):Bool:=ú (bg a) (bg b)
section
variable{pz:List (Addr×Obj)}{σ:L2.St}{H:Hp}{s:c_}{G:GH}
theorem Iz(b:∀(d:D)(v:V)(u:Value),cn k d->RG X.K G v d->L2.av v u->∃Y,Reads s.heap u (bg d) Y)(ds:List D)(vs:List V)(L:List Value)(h:∀d∈ds,cn k d)(r:bJ X.K G vs ds)(q:ar vs L):∃Y,ReadsAll s.heap L (zfZ ds) Y:=by induction r generalizing L with
|nil=>cases q;exact⟨[],.nil⟩
|cons r t U=>cases q with
 |cons a Z=>obtain⟨g,e⟩:=b _ _ _ (h _ m_) r a;obtain⟨f,c⟩:=U _ (by simp_all) Z;exact⟨_,.cons e c⟩
theorem sK(I:Inv X pz σ H s)(Y:bi X.K G H):∀(k:Nat)(d:D)(v:V)(u:Value),cn k d->RB X.K G H v d->L2.av v u->∃c,Reads s.heap u (bg d) c:=by
 intro k
 induction k with
|zero=>intro d v u U r L;cases d with
 |non=>rw[r.non Y]at L;cases L;exact⟨_,.none⟩
 |bl b=>rw[r.bl Y]at L;cases L;exact⟨_,.bool b⟩
 |int i=>rw[r.int Y]at L;obtain⟨t,rfl⟩:=L;exact⟨_,.int i t⟩
 |str x=>rw[r.str Y]at L;obtain⟨t,rfl⟩:=L;exact⟨_,.str x t⟩
 |tup _=>unfold cn at U;exact U.elim
 |lst _=>unfold cn at U;exact U.elim
 |dic _=>unfold cn at U;exact U.elim
 |obj _ _=>unfold cn at U;exact U.elim
|succ k B=>intro d v u U r L;cases d with
 |non=>rw[r.non Y]at L;cases L;exact⟨_,.none⟩
 |bl b=>rw[r.bl Y]at L;cases L;exact⟨_,.bool b⟩
 |int i=>rw[r.int Y]at L;obtain⟨t,rfl⟩:=L;exact⟨_,.int i t⟩
 |str x=>rw[r.str Y]at L;obtain⟨t,rfl⟩:=L;exact⟨_,.str x t⟩
 |tup A=>obtain⟨a,e,rfl,f,j⟩:=r.tup Y;cases L;obtain⟨Z,g,l,_⟩:=I.tuple f;obtain⟨o,m,q,n,p⟩:=l;obtain⟨c,h⟩:=Iz (k:=k) (fun d v u z y w=>B d v u z y.rb w) A e Z (lz.mp U) j g;refine⟨c,?_⟩;unfold bg;exact .tuple m q p (by simpa using h)
 |lst A=>obtain⟨a,e,rfl,f,j⟩:=r.lst Y;cases L;obtain⟨Z,g,l,_⟩:=I.list f;obtain⟨o,m,q,n,p⟩:=l.isList;obtain⟨c,h⟩:=Iz (k:=k) (fun d v u z y w=>B d v u z y.rb w) A e Z (pe.mp U) j g;refine⟨a::c,?_⟩;unfold bg;exact .list m q p (by simpa using h)
 |dic _=>unfold cn at U;exact U.elim
 |obj _ _=>unfold cn at U;exact U.elim
theorem yX(L:∀d,cn k d->Zg (bg d)=true/\ZD (bg d)<=k):∀ds:List D,(∀d∈ds,cn k d)->Qcn (zfZ ds)=true/\Qde (zfZ ds)<=k
|[],_=>by unfold zfZ Qcn Qde;exact⟨rfl,YQ _⟩
|d::ds,h=>by obtain⟨b,a⟩:=L d (h d m_);obtain⟨Z,Y⟩:=yX L ds fun x U=>h x (k_ _ U);unfold zfZ Qcn Qde;rw[b,Z];exact⟨rfl,Nat.max_le.mpr ⟨a,Y⟩⟩
theorem MX:∀(k:Nat)(d:D),cn k d->Zg (bg d)=true/\ZD (bg d)<=k:=by
 intro k
 induction k with
|zero=>intro d L;cases d with
 |non=>unfold bg Zg ZD;grind
 |bl b=>unfold bg Zg ZD;grind
 |int i=>unfold bg Zg ZD;grind
 |str x=>unfold cn at L;unfold bg Zg ZD;simp_all
 |tup _=>unfold cn at L;exact L.elim
 |lst _=>unfold cn at L;exact L.elim
 |dic _=>unfold cn at L;exact L.elim
 |obj _ _=>unfold cn at L;exact L.elim
|succ k Y=>intro d L;cases d with
 |non=>unfold bg Zg ZD;grind
 |bl b=>unfold bg Zg ZD;grind
 |int i=>unfold bg Zg ZD;grind
 |str x=>unfold cn at L;unfold bg Zg ZD;simp_all
 |tup U=>
   obtain⟨a,Z⟩:=yX Y U (lz.mp L);unfold bg Zg ZD
   grind
 |lst U=>
   obtain⟨a,Z⟩:=yX Y U (pe.mp L);unfold bg Zg ZD
   grind
 |dic _=>unfold cn at L;exact L.elim
 |obj _ _=>unfold cn at L;exact L.elim
theorem tf(h:cn 60 d):QfF (bg d)=true:=by obtain⟨a,b⟩:=MX 60 d h;unfold QfF;rw[a,Q_d (Y1 b (by decide))];rfl
end
def mY(a b:D):Bool:=cN a&&cN b&&kB (iz a) (iz b)
open Classical in
def iN(a b:D):Option Bool:=if mY a b=true then some (gZ a b)else if cn 60 a/\cn 60 b then some (mL a b)else none
def eqD(a b:D):Option D:=(iN a b).map .bl
def neD(a b:D):Option D:=(iN a b).map fun c=>.bl (! c)
theorem zD{a b:D}(h:mY a b=false)(U:cn 60 a)(L:cn 60 b):iN a b=some (mL a b):=by unfold iN;simp_all
theorem PH{a b:D}(h:mY a b=true):iN a b=some (gZ a b):=by unfold iN;rw[Q_e h]
@[simp] theorem eqB_int(a b:Int):iN (.int a) (.int b)=some (a==b):=PH rfl
theorem Ig{a b:D}(h:kB (iz a) (iz b)=true)(U:cN a=true)(L:cN b=true):decide (iz a=iz b)=gZ a b:=by
 cases a <;> cases b <;> first
  |grind
  |grind
  |exact Q_g (h) y_
  |exact yA
  |exact wE
  |exact yB
  |rfl
  |simp[iz,gZ,iL]
def sf(K:W.Frag)(neg:Bool):R2:=fun x y H Q=>∃(G:GH)(d1 d2:D),bi K G H/\RB K G H x d1/\RB K G H y d2/\cn 60 d1/\cn 60 d2/\Q (.bl (if neg then ! mL d1 d2 else mL d1 d2)) H
theorem IS(d:X.A.units+64<Z9):br X (YK .Eq) (sf X.K false):=by intro k s j H x y v u Q I a Z h;obtain⟨G,i,g,Y,c,b,U,L,q⟩:=h;obtain⟨m,f⟩:=sK I Y 60 i x v U c a;obtain⟨l,e⟩:=sK I Y 60 g y u L b Z;exact SeqAt.compareEq_shaped f e (tf U) (tf L) d ⟨.bl _,H,I,rfl,q⟩
theorem RO(d:X.A.units+64<Z9):br X (YK .NotEq) (sf X.K true):=by intro k s j H x y v u Q I a Z h;obtain⟨G,i,g,Y,c,b,U,L,q⟩:=h;obtain⟨m,f⟩:=sK I Y 60 i x v U c a;obtain⟨l,e⟩:=sK I Y 60 g y u L b Z;exact SeqAt.compareNe_shaped f e (tf U) (tf L) d ⟨.bl _,H,I,rfl,q⟩
theorem eq_cases{a b:D}{c:Bool}(h:iN a b=some c):(mY a b=true/\c=gZ a b)\/(cn 60 a/\cn 60 b/\c=mL a b):=by
 unfold iN at h
 grind
theorem Eb{K:W.Frag}:dU K (fun x y H Q=>K0 x y H Q\/sf K false x y H Q) eqD:=by intro G H l k f b d Q U a Z e q;unfold eqD at e;cases Y:iN f b with
|none=>rw[Y]at e;cases e
|some c=>
  rw[Y]at e;cases e;rcases eq_cases Y with⟨L,rfl⟩|⟨h,g,rfl⟩
  .unfold mY at L;rw[R_,R_]at L;obtain⟨j,_⟩:=RB.flat a U L.1.1;obtain⟨i,_⟩:=RB.flat Z U L.1.2;refine .inl ⟨by simp_all,?_⟩;rw[j,i,Ig L.2 L.1.1 L.1.2];exact q _ G H (Grow.refl U) (.scl (.bl _))
  .exact .inr ⟨G,f,b,U,a,Z,h,g,q _ G H (Grow.refl U) (.scl (.bl _))⟩
theorem Vx{K:W.Frag}:dU K (fun x y H Q=>KZ x y H Q\/sf K true x y H Q) neD:=by intro G H l k f b d Q U a Z e q;unfold neD at e;cases Y:iN f b with
|none=>rw[Y]at e;cases e
|some c=>
  rw[Y]at e;cases e;rcases eq_cases Y with⟨L,rfl⟩|⟨h,g,rfl⟩
  .unfold mY at L;rw[R_,R_]at L;obtain⟨j,_⟩:=RB.flat a U L.1.1;obtain⟨i,_⟩:=RB.flat Z U L.1.2;refine .inl ⟨by simp_all,?_⟩;rw[j,i,Ig L.2 L.1.1 L.1.2];exact q _ G H (Grow.refl U) (.scl (.bl _))
  .exact .inr ⟨G,f,b,U,a,Z,h,g,q _ G H (Grow.refl U) (.scl (.bl _))⟩
theorem dM(L:X.A.units+64<Z9)(Y:SB X g m a fa)(U:SB X g m b fb):SE X g m (.Compare a [.Eq] [b] pos) (f2 fa fb eqD):=nh (br.or Em (IS L)) Eb Y U (iY _)
theorem q_eq(L:X.A.units+64<Z9)(Y:SB X g m a fa)(U:SB X g m b fb):SQ X g m (.Compare a [.Eq] [b] pos) (bj (f2 fa fb eqD)):=ka (br.or Em (IS L)) Eb Y U (iY _)
theorem fN(L:X.A.units+64<Z9)(Y:SB X g m a fa)(U:SB X g m b fb):SQ X g m (.Compare a [.NotEq] [b] pos) (bj (f2 fa fb neD)):=ka (br.or VA (RO L)) Vx Y U (iY _)
def jj(fa fb fc:FE)(k k':D->D->Option D):FE:=fun r=>(fa r).bind fun x=>(fb r).bind fun y=>(dD (k x y)).bind fun z=>(dD (qI z)).bind fun c=>if c=true then(fc r).bind fun w=>dD (k' y w)else .ok (.bl false)
def rK(K:W.Frag):R2:=fun x y H Q=>∃l b xs zs,x=.ref l/\y=.ref b/\bp K H l xs/\bp K H b zs/\xs.length+zs.length<=sizeLine/\∀p,H p=none->Q (.ref p) (aO H p (.lst (xs++zs)))
theorem yU:br X (ZY .Add) (rK X.K):=by
 intro N s G H x y v u Q I p o h;obtain⟨l,b,M,J,rfl,rfl,z,A,R,q⟩:=h;cases p;cases o;obtain⟨a,r,t,_⟩:=I.list z;obtain⟨L,f,Z,_⟩:=I.list A;have P:=r.length;have O:=f.length;obtain⟨⟨C,B,k,m⟩,g,j,n,i⟩:=t.isList;obtain⟨⟨S,E,T,Y⟩,c,U,w,d⟩:=Z.isList;simp only at j i U d;subst j i U d;have e:a.toArray++L.toArray=(a++L).toArray:=by simp
 refine ĺ ⟨_,g,rfl⟩ ⟨_,c,rfl⟩ noFill_list_add seq_list_add PySem.F.slot_list_add PySem.F.entry_list_add (PySem.F.args_list_add_2 _ _) (list_addW _ _ a.toArray L.toArray n w B E m Y (by simp;omega)) ⟨g,c,?_⟩;rw[e];exact⟨.ref _,_,I.lnew (t':=s.toks) (r.append f) (by rw[D_];omega),rfl,q _ I.fresh⟩
def catL:D->D->Option D
|.lst a,.lst b=>if a.length+b.length<=sizeLine then some (.lst (a++b))else none
|_,_=>none
theorem NC{K:W.Frag}:DU K (rK K) catL:=by
 intro G H l k r o d Q L j i e q;unfold catL at e;split at e
 .split at e
  .cases e;obtain⟨a,f,rfl,h,Z⟩:=j.lst L;obtain⟨b,c,rfl,g,Y⟩:=i.lst L;have n:=Paired.length Z;have m:=Paired.length Y;exact⟨a,b,f,c,rfl,rfl,h,g,by omega,fun p U=>q p G _ (Grow.new L U _) U ⟨L.isN U,.lst bV (Paired.app Z Y)⟩⟩
  .cases e
 .cases e
theorem Ek(U:SB X g m a fa)(L:SB X g m b fb):SO X g m (.BinOp a .Add b pos) (f2 fa fb catL):=Nq yU NC U L
def addA:D->D->Option D
|.int a,.int b=>some (.int (a+b))
|.str a,.str b=>if a.length+b.length<=sizeLine then some (.str (a++b))else none
|.lst a,.lst b=>if a.length+b.length<=sizeLine then some (.lst (a++b))else none
|.tup (x::a),.tup b=>if (x::a).length+b.length<=sizeLine then some (.tup (x::a++b))else none
|_,_=>none
theorem Go{K:W.Frag}:dU K (fun x y H Q=>(∃i j,x=.int i/\y=.int j/\Q (.int (i+j)) H)\/(∃i j,x=.str i/\y=.str j/\i.length+j.length<=sizeLine/\Q (.str (i++j)) H)\/rK K x y H Q\/vN K x y H Q) addA:=by
 intro G H t s v u d Q L U c e q;unfold addA at e;split at e
 .cases e;exact .inl ⟨_,_,U.int L,c.int L,q _ G H (Grow.refl L) (.scl (.int _))⟩
 .split at e
  .rename_i hl;cases e;exact .inr (.inl ⟨_,_,U.str L,c.str L,hl,q _ G H (Grow.refl L) (.scl (.str _))⟩)
  .cases e
 .split at e
  .rename_i hl;cases e;obtain⟨a,g,rfl,k,Z⟩:=U.lst L;obtain⟨b,f,rfl,h,Y⟩:=c.lst L;have o:=Paired.length Z;have n:=Paired.length Y;exact .inr (.inr (.inl ⟨a,b,g,f,rfl,rfl,k,h,by omega,fun p l=>q _ _ _ (Grow.newF L l (.lst (.inl bV) (Paired.app Z Y))) (.ref ga)⟩))
  .cases e
 .split at e
  .rename_i x0 a0 b0 hl;cases e;rcases U with U|⟨w,_,m⟩
   .obtain⟨a,g,rfl,k,Z⟩:=U.tup L;obtain⟨b,f,rfl,h,Y⟩:=c.tup L;have o:=Paired.length Z;have n:=Paired.length Y;refine .inr (.inr (.inr ⟨a,b,g,f,rfl,rfl,k,h,?_,by omega,fun r=>?_,fun _ p l=>q _ _ _ (Grow.newF L l (.tup (.inl bV) (Paired.app Z Y))) (.ref ga)⟩))
    .rintro rfl
     cases Z
    .subst r;cases Y;refine q _ G H (Grow.refl L) ?_;rw[Ú];exact U
   .cases m.ob
  .cases e
 .cases e
theorem bX(U:SB X g m a fa)(L:SB X g m b fb):SE X g m (.BinOp a .Add b pos) (f2 fa fb addA):=jQ (br.or Ff (br.or JC (br.or yU Gz))) Go U L
end DL
end
namespace DL
open PySem PySem.Spec PyProof.Rows L2
structure DefAt(K:W.Frag)(mg:Str->Option Value)(x:Str)(st:Stmt):Prop where
 ex:∃f fd,mg x=some (.ref f)/\Fun K x x st f fd
structure Callee(P:C_)(w:S_)(K:W.Frag)(mg:Str->Option Value)(base:Heap)(x:Str)(ps:List Str)(ds:List Value)(k:Nat)(ro:Bool)(ms:List Md)(F:List D->Res D):Prop where
 ex:∃f fd,mg x=some (.ref f)/\W.keepIn K (.ref f)=true/\jg K fd ps ds/\FnOk P w K mg base fG k f fd ps (ku K ro ms F)
variable{K:W.Frag}
section
variable{P:C_}{w:S_}{mg:Str->Option Value}{base:Heap}
theorem wX{st:Stmt}{fs:FS}{m':List Md}(A:DefAt K mg x st)(S:FnScope N ps (ab st))(U:ms.length=ps.length)(e:∀(kV c d:Value)(l:Option Addr)(Y j:Value)(a:List Value),a.length=ps.length->Ó (W.fnOf x x (aX st) (aC st) (ab st) .none kV c d l Y j) ⟨a,[]⟩=pure (ps.zip a))(L:∀(f:Addr)(Y:Value)(A:T_)(Z:List Env)(s:c_)(H:Hp)(g:GE)(E:XK),Room k (A.deeper (ä x (ab st) s.heap.objs.size f Y)) ->fS (dF fG P w K mg base N x (ab st) f Y A Z s H E).nox g b [] (iy N.length ms) (aC st) fs m'):Callee P w K mg base x ps [] (k+1) b ms fun ds=>cX b (fs (bP N.length ds)):=by obtain⟨f,i,h,F⟩:=A.ex;exact⟨f,i,h,F.kp,F.binds e,wG F S U (L f)⟩
end
variable{X:Cx}{g:GE}{m ms ms':List Md}{e:Expr}{es:List Expr}{fl:am->Res (List D)}{ps:List Str}{F:List D->Res D}{dvs:List V}{ds:List Value}{dds:List D}{p pos:Pos}
section
variable{k:Nat}{x:Str}{i:Nat}
theorem wM(c:Callee X.prog X.w X.K X.mg X.base x ps ds k false ms' F)(a:Room k X.A)(i:jL X g m (e::es) ms fl)(Y:ms'=ms++t_ dds.length .sh:=by rfl)(b:Gl X x:=by rfl)(h:ar dvs ds:=by exact .nil)(U:Paired Scl dvs dds:=by exact .nil)(L:(x==("__debug__" : Str))=false:=by decide)(d:f_ (e::es) X.env=(false,eval e X.env)::f_ es X.env:=by rfl)(Z:(backTo pos (f_ es X.env)).any (·.1)=false:=by rfl):SE X g m (.Call (.Name x p) (e::es) [] pos) (bx fl dds F):=by subst Y;obtain⟨f,q,o,n,l,j⟩:=c.ex;exact MN j a b o n l h U i L d Z
theorem v_(i:Nat)(Y:m[i]? = some .sh:=by rfl)(hN:X.N[i]? = some x:=by rfl)(U:ik X.env.scope x:=by first|exact Or.inl rfl|exact Or.inr (Or.inl rfl)|exact Or.inr (Or.inr rfl))(Z:(x==("__debug__" : Str))=false:=by decide)(L:(x==("__classdict__" : Str))=false:=by decide):SE X g m (.Name x p) fun r=>bh r i:=Lo i Y hN U Z L
theorem aa(i:Nat)(Y:i<m.length:=by decide)(hN:X.N[i]? = some x:=by rfl)(U:ik X.env.scope x:=by first|exact Or.inl rfl|exact Or.inr (Or.inl rfl)|exact Or.inr (Or.inr rfl))(Z:(x==("__debug__" : Str))=false:=by decide)(L:(x==("__classdict__" : Str))=false:=by decide):SB X g m (.Name x p) fun r=>bh r i:=MW i Y hN U Z L
end
def KY(X:Cx)(g:GE)(m:List Md)(f:FE):TE:=fun σ H Q=>∃r G,SI X g m r G σ H/\fin (f r) (fun d=>∀v G' H',Grow X.K G H G' H'->RV true X.K H G' H' v d->Q v H') (XW X σ G H)
variable{ro:Bool}{mb:List Md}{f:FE}{pos':Pos}
section
variable{m':List Md}{tg:Expr}{sts:List Stmt}{st:Stmt}{x:Str}{k:Nat}{fa fb f3:FS}
theorem Hx(c:Callee X.prog X.w X.K X.mg X.base x ps ds k true ms' F)(n:Room k X.A)(B:jL X g m (e::es) ms fl)(Y:ms'=ms++t_ dds.length .sh:=by rfl)(t:Gl X x:=by rfl)(y:ar dvs ds:=by exact .nil)(U:Paired Scl dvs dds:=by exact .nil)(L:(x==("__debug__" : Str))=false:=by decide)(u:f_ (e::es) X.env=(false,eval e X.env)::f_ es X.env:=by rfl)(b:(backTo pos (f_ es X.env)).any (·.1)=false:=by rfl):PE X (.Call (.Name x p) (e::es) [] pos) (KY X g m (bx fl dds F)):=by
 subst Y;obtain⟨T,S,J,I,E,C⟩:=c.ex;refine PE.imp (GD C n t J I E y rG B L u b) fun O H Q ⟨r,G,i,q⟩=>⟨r,G,i,?_⟩
 cases f:fl r with
|ok P=>
  unfold bx at q;rw[f]at q;intro R G' W Z l;refine Ja Z.ok l U (bu (Aa q (Fc _)) fun d k v N M h j=>?_);refine k v N M (Z.trans h) ?_;rcases j with⟨a,rfl,s,o⟩|z
  .exact .inl ⟨a,rfl,Z.back s,o⟩
  .exact .inr z
|exc x=>unfold bx at q;rw[f]at q;exact q
|stuck=>unfold bx at q;rw[f]at q;exact q
theorem Hk(h:m'.length=m.length):fS X g ro mb m sts (fun _=>.stuck) m':=⟨h,dI.imp Iy fun D L H k=>by obtain⟨r,G,U,q⟩:=k;exact q⟩
def iF(m:List Md)(i:Nat)(f:FE)(fa fb f3:FS):FS:=fun r=>iG m r (f r) fun d=>match d with
|.non=>al fa f3 (r.set i (some .non))
|d=>al fb f3 (r.set i (some d))
theorem Hl(i:Nat)(hN:X.N.Nodup)(t:X.N[i]? = some x)(o:je X.env.scope x)(z:PE X e (KY X g m f))(B:SS X g ro mb (m.set i .sh) st fa (m.set i .ow))(A:SS X g ro mb (m.set i .ow) st fb (m.set i .ow))(Y:fS X g ro mb (m.set i .ow) sts f3 m')(hs:ï e (some (.Name x pos')) pos.line X.env=pure false:=by rfl)(y:X.fn x=true\/X.env.scope.names.lookup x=some .local:=by first|exact .inl rfl|exact .inr rfl|assumption):fS X g ro mb m (.Assign [.Name x pos'] e pos::st::sts) (iF m i f fa fb f3) m':=by
 have c:=by have:=Y.1;simpa using this
 have n:=(ai B Y).2;have l:=(ai A Y).2;refine⟨c,dI.imp (zx (wS hN t o z hs y) (u:=fun D L H=>tS X g ro (m.set i .sh) m' mb (al fa f3) D L H\/tS X g ro (m.set i .ow) m' mb (al fb f3) D L H) fun Z s L H D I h=>?_) fun D L H ⟨r,G,U,q⟩=>⟨r,G,U,?_⟩⟩
 .rcases h with h|h
  .exact n Z s L H D I h
  .exact l Z s L H D I h
 .refine bu (fY U c q) fun d q v j C w k=>?_;rcases k with⟨a,rfl,p,b⟩|⟨rfl,rfl⟩
  .refine .inr ⟨_,j,U.setN w i p b,?_⟩;cases d with
  |non=>exact(nomatch b.ob)
  |_=>exact cH.gle q w.ge
  .exact .inl ⟨_,j,(U.grow w).set i (.scl .non),cH.gle q w.ge⟩
end
def nq(osc:à)(ON:List Str)(sc:à)(N':List Str)(nl:Nat)(cap:List Nat):Bool:=decide (sc.kind=.function)&&sc.names.all (fun y=>decide (y.2≠.cell))&&sc.names.all (fun y=>decide (y.2≠.local) || decide (sc.names.lookup y.1=some .local)) &&
 sc.names.all (fun y=>decide (y.2≠.free) || (decide (osc.names.lookup y.1=some .cell) || decide (osc.names.lookup y.1=some .free)))&&decide (N'.length=nl+cap.length) &&
 (d_ cap.length).all fun j=>match N'[nl+j]?,ON[cap.getD j 0]? with
 |some x,some y=>decide (x=y)&&decide (sc.names.lookup x=some .free)
 |_,_=>false
theorem pC(f:X.env.scope=osc)(e:X.N=ON)(h:nq osc ON Z N' nl cap=true):CompSc X Z N' nl cap:=by subst f e;unfold nq at h;simp only[R_,Yy,Q_k,Bool.or_eq_true]at h;obtain⟨⟨⟨⟨⟨n,m⟩,l⟩,k⟩,i⟩,g⟩:=h;refine⟨n,m,fun y U b=>(l y U).resolve_left fun z=>z b,fun y U d=>(k y U).resolve_left fun z=>z d,i,fun j c=>?_⟩;have L:=g j (n_.mpr c);cases Y:N'[nl+j]? with
|none=>rw[Y]at L;cases L
|some x=>cases a:X.N[cap.getD j 0]? with
 |none=>rw[Y,a]at L;cases L
 |some y=>rw[Y,a]at L;simp only[R_,Q_k]at L;exact⟨x,rfl,by rw[L.1],L.2⟩
variable{fa fb:FE}{a b:Expr}
section
variable{c:Expr}{fc:FE}
theorem JP(C:dU X.K R k)(L:dU X.K j k')(h:tE X g m (jj fa fb fc k k') σ H Q):xC R j (tB X g m fa) (tB X g m fb) (tB X g m fc) σ H Q:=by obtain⟨r,G,a,q⟩:=h;refine kA a q fun I i p Z T O w u b B=>?_;obtain⟨z,E,A⟩:=cJ (bv B);obtain⟨J,f,c⟩:=cJ (bv A);refine C T O p Z I i z _ w.ok u b E fun v l N U s=>?_;cases z with
|bl b'=>cases f;refine⟨_,s.bl U.ok,?_⟩;cases J with
 |false=>exact c _ l N (w.trans U) (.scl (.bl _))
 |true=>refine⟨r,l,(a.grow w).grow U,ic (bv c) (w.trans U) fun F y o S M Y t=>?_⟩;obtain⟨d,e,x⟩:=cJ y;exact L S M Z o i F d Q Y.ok ((b.mono U).mono Y) t e fun v W P n z=>x v W P (((w.trans U).trans Y).trans n) z
|_=>cases f
theorem PD(h:tQ X g m (bj f) σ H Q):tE X g m f σ H fun x L=>∃k,x=.bl k/\Q k L:=by obtain⟨r,G,U,q⟩:=h;refine⟨r,G,U,bu (bv q) fun d q1 v a L w Y=>?_⟩;obtain⟨b,e,Z⟩:=cJ q1;cases d with
|bl c=>cases e;exact⟨_,Y.bl w.ok,Z a L w⟩
|_=>cases e
theorem Qr(e:br X (YK Z) R)(Y:br X (YK L) d)(f:dU X.K R k)(U:dU X.K d k')(n:SB X g m a fa)(l:SB X g m b fb)(j:SB X g m c fc)(i:Ŀ [Z,L] [b,c]=false:=by with_unfolding_all rfl):SE X g m (.Compare a [Z,L] [b,c] pos) (jj fa fb fc k k'):=PE.imp (QJ e Y n l j i) fun o H Q h=>JP f U h
theorem zy(e:br X (YK Z) R)(Y:br X (YK L) d)(f:dU X.K R k)(U:dU X.K d k')(n:SB X g m a fa)(l:SB X g m b fb)(j:SB X g m c fc)(i:Ŀ [Z,L] [b,c]=false:=by with_unfolding_all rfl):SQ X g m (.Compare a [Z,L] [b,c] pos) (bj (jj fa fb fc k k')):=PT.imp (QQ e Y n l j i) fun o H Q h=>JP f U (PD h)
theorem rF:dU K (jy fun i j=>V.bl (decide (i<j))) ltI:=jW fun _ _=>.bl _
theorem rN:dU K (jy fun i j=>V.bl (decide (i<=j))) ii:=jW fun _ _=>.bl _
end
theorem VD{st:Stmt}(j:K.In h)(G:h.Ns Y9 Z){f:Addr}{e:Value}{d i:Option Addr}{U:Array (Option Value)}{kV Y b L g:Value}(a:W.nsIn K Y9 x=some (some (.ref f)))(l:K.lookup f=some ⟨e,d,.func (W.fnOf x x (aX st) (aC st) (ab st) .none kV Y b i L g),U⟩)(c:W.codeIn K L x=true)(k:W.keepIn K (.ref f)=true):DefAt K Z x st:=⟨f,_,W.mg_of j G a,cY l c k⟩
theorem VE{b:Str->Option Value}{x p:Str}{st:Stmt}{k:Nat}{F:List D->Res D}{e:Addr}(L:b x=some (.ref e))(A:DefAt K b x st)(m:∀(kV Z d:Value)(h:Option Addr)(a g:Value)(c:List Value),c.length=[p].length->Ó (W.fnOf x x (aX st) (aC st) (ab st) .none kV Z d h a g) ⟨c,[]⟩=pure ([p].zip c))(C:∀(f:Addr)(Y:ZB),Fun K x x st f Y->∀base:Heap,FnOk P w K b base fG k f Y [p] (ku K false [.sh] F)):∃Y:ZB,(∀(s:c_)(u:Value),ą s Y ⟨[u],[]⟩ [(p,u)])/\∀base:Heap,K.In base->base.Ns Y9 b->FnOk P w K b base fG k e Y [p] (ku K false [.sh] F):=by obtain⟨f,Y,i,j⟩:=A.ex;rw[L]at i;cases i;refine⟨Y,fun s u=>?_,fun base _ _=>C e Y j base⟩;obtain⟨o,n,kV,Z,d,h,a,g,l,rfl,q,U⟩:=j.ex;exact .of_eq (m kV Z d h a g [u] rfl)
theorem VC{l:W.OpenLaw}{d:DefRec}{K:Params->W.Frag}{x:Str}{F:List D->Res D}(G:l.most=some 63)(Y:d.params.defaults=[])(E:Room k Á)(I:∀(w:S_)(h:Heap),A w h->(K w.params).In h)(r:∀c:List Int,c.length<=63->F [.lst (c.map .int)]=.ok (.bl true))(C:∀(w:S_)(j:Str->Option Value)(y:Addr)(h:Heap),(K w.params).In h->h.Ns Y9 j->j d.name=some (.ref y) ->∃t:ZB,(∀(s:c_)(u:Value),ą s t ⟨[u],[]⟩ [(x,u)])/\∀base:Heap,(K w.params).In base->base.Ns Y9 j->FnOk l.prog w (K w.params) j base fG k y t [x] (ku (K w.params) false [.sh] F)):W.WalkO q U M A l.row.toRowW d [] (fun f vs=>Qe7 f vs):=by
 refine L2.kr G (by decide) Y E I C (fun w H a c p P g=>?_) fun _ _ _ _ _ z=>z;have L:∀(l:List Int),Paired Scl (l.map V.int) (l.map D.int):=fun l=>by induction l with
 |nil=>exact .nil
 |cons i l B=>exact .cons (.int i) B
 rcases g with g|g
 .refine⟨fun b=>if b=a then some _ else none,[.lst (c.map .int)],fun b J o=>?_,.sh (.ref (Q_e rfl)) .nil,?_⟩
  .by_cases e:b=a
   .subst e;have Z:=(Q_e rfl).symm.trans o;cases Z;exact .lst g (Paired.mono (fun _ _ z=>.scl z) (L c))
   simp_all
  .rw[r c p];intro v O N m n;exact n.bl m.ok
 .refine⟨fun _=>none,_,fun b J o=>(by cases o),.sh (.kc (.lst (.inr g) (L c))) .nil,?_⟩;rw[r c p];intro v O N m n;exact n.bl m.ok
section
open AutoSeq1 (wpAny_loadPart')
section
variable{prog:C_}{w:S_}{A:T_}{E:Value->c_->Prop}{s:c_}
theorem U4{items}(L:s.heap.IsTupleIter Y t i)(d:s.heap.IsTuple t items)(c:items[i]? = some x)(f:∀h',h'.IsTupleIter Y t (i+1)->Zq Y s.heap h'->Q x { s with heap:=h' }):p_ (u_ prog w) A (YB (.ref Y)) Q E s:=by
 obtain⟨o,Z,e,U⟩:=id L;obtain⟨g,a,_,h,b⟩:=d;refine Q_a (YX L.typeIs F.slot_tuple_iterator_next
  (Y0 F.slot_tuple_iterator_next L.typeIs F.entry_tuple_iterator_next ?_ (F.args_tuple_iterator_next_1 _)))
 show p_ _ _ (Å _ 0 >>= _) _ _ s;refine Q_a (Q_ Z U rfl ?_);refine Q_a (Q_ Z U rfl ?_);refine Q_a (YC a b ?_);simp only[W_,c];refine Q_a (wpAny_setField Z U (by simp) (e_ ⟨x,rfl,e_ (f _ ?_ (ZZ ..))⟩));exact⟨_,YM _ Z (Obj.isFreed_of_fields (Qd7 U _)),(Obj.cls_mapFields ..).trans e,by rw[Qd7 U];simp[â]⟩
theorem UV{items}(f:A.handled=none)(L:s.heap.IsTupleIter U t i)(d:s.heap.IsTuple t items)(c:items[i]? = none)(g:∀h' e,ĩ U s.heap h'->(∃o,h'.get? e=some o/\o.cls=.type "StopIteration")->E (.ref e) { s with heap:=h' }):p_ (u_ prog w) A (YB (.ref U)) Q E s:=by
 obtain⟨o,Z,k,b⟩:=id L;obtain⟨h,Y,_,j,a⟩:=d;unfold YB;refine Q_a (YX L.typeIs F.slot_tuple_iterator_next
  (Y0 F.slot_tuple_iterator_next L.typeIs F.entry_tuple_iterator_next ?_ (F.args_tuple_iterator_next_1 _)))
 show p_ _ _ (Å (.ref U) 0 >>= _) _ _ s;refine Q_a (Q_ Z b rfl ?_);refine Q_a (Q_ Z b rfl ?_);refine Q_a (YC Y a ?_);simp only[W_,c];refine Q_a (ü (Q_a (wpAny_setField Z b (by simp) ?_)));refine Q_a ?_;refine Q_a (m:=Ŵ _ _) (Z6 (by first|rfl|grind) ?_);refine Zc ?_ (by size_fits);refine Q_a (wpAny_handled ?_)
 first|grind|rw[f]
 refine Q_a (e_ (wpAny_throw ?_));exact g _ _ (((ZZ ..).extBut.push _).push _) ⟨_,i_ _ rfl,rfl⟩
end
theorem Lf(f:A.handled=none)(Z l:Addr)(c:l≠Z)(U:Array Value):ó prog w A Z [Z,l] U.size (fun i v=>U[i]? = some v) (fun i h=>h.IsTupleIter Z l i/\h.IsTuple l U) where
 live:=fun _ _ Y=>let⟨o,a,_⟩:=Y.1;⟨o,a⟩
 frame:=fun _ _ _ Y d=>⟨let⟨o,a,r⟩:=Y.1;⟨o,d Z (by simp) o a,r⟩,let⟨o,a,r⟩:=Y.2;⟨o,d l (by simp) o a,r⟩⟩
 item:=fun i s Q E e Y g=>by refine U4 Y.1 Y.2 (x:=U[i]) (by simp[e]) fun k b L=>?_;exact g _ k s.toks (by simp[e]) ⟨b,Y.2.extBut L.extBut c⟩ L
 done:=fun s Q E Y j=>UV f Y.1 Y.2 (by simp) j
theorem UZ(l:Addr)(U:Array Value)(n:Nat)(L:Option Addr)(f:Array (Option Value)) :
  ë (Zf.«enumerate.__new__» ⟨[.type "enumerate",.ref l],[]⟩) (fun _ R s=>s.heap.get? l=some { cls:=.type "tuple",dict:=L,data:=.seq U n,slots:=f } /\
   R (.ok (.ret (.ref (s.heap.push { cls:=.type "tuple_iterator",data:=.fields #[.ref l,.int 0 0] }).objs.size)))
    { s with heap:=(s.heap.push { cls:=.type "tuple_iterator",data:=.fields #[.ref l,.int 0 0] }).push { cls:=.type "enumerate",data:=.fields #[.none,.bool false,.ref s.heap.objs.size,â 0,.none,.none] } }):=
 .of_wp fun a w A R s h=>by
  obtain⟨j,g,d,e,i⟩:=s;obtain⟨Y,h⟩:=h;have b:=sub_enumerate;have Z:Heap.IsTuple (Ē ⟨j,g,d,e,i⟩) l U:=⟨_,Y,rfl,n,rfl⟩
  wp_walk using Q_b Y
  refine wpAny_stack_any fun k=>e_ ?_;split
  .rename_i c _ _ _ _ _;cases(c==Value.type "enumerate")
   .wp_walk using Q_b Y,ZK Z
    exact⟨_,rfl,h⟩
   .wp_walk using Q_b Y,ZK Z
    exact⟨_,rfl,h⟩
  .wp_walk using Q_b Y,ZK Z
   exact⟨_,rfl,h⟩
section
variable{prog:C_}{w:S_}{A:T_}{E:Value->c_->Prop}{s:c_}
theorem UK(i:s.heap.IsTuple l U)(h:∀h',IsEnum h' (s.heap.objs.size+1) s.heap.objs.size 0 .none->h'.IsTupleIter s.heap.objs.size l 0->h'.objs.size=s.heap.objs.size+2 ->(∀b o,s.heap.get? b=some o->h'.get? b=some o)->Q (.ref (s.heap.objs.size+1)) { s with heap:=h' }):p_ (u_ prog w) A (call (.type "enumerate") [.ref l]) Q E s:=by
 obtain⟨⟨c,L,j,d⟩,e,g,n,f⟩:=i;subst g f;refine ġ F.called_enumerate (rfl) (F.typeCall_enumerate_1 _) (F.newCall_enumerate_1 _) (fun Y=>F.args_object_init_2 Y _) F.entry_enumerate_new
  (UZ l U n L d) ⟨e,?_⟩
 have Z:(s.heap.push { cls:=.type "tuple_iterator",data:=.fields #[.ref l,.int 0 0] }).objs.size=s.heap.objs.size+1:=H_ ..;rw[Z];have a:IsEnum ((s.heap.push { cls:=.type "tuple_iterator",data:=.fields #[.ref l,.int 0 0] }).push
   { cls:=.type "enumerate",data:=.fields #[.none,.bool false,.ref s.heap.objs.size,â 0,.none,.none] }) (s.heap.objs.size+1) s.heap.objs.size 0 .none:=by
  have:=i_ (s.heap.push { cls:=.type "tuple_iterator",data:=.fields #[.ref l,.int 0 0] })
   (o:={ cls:=.type "enumerate",data:=.fields #[.none,.bool false,.ref s.heap.objs.size,â 0,.none,.none] }) rfl
  grind
 refine⟨⟨_,a,rfl⟩,h _ a ⟨_,a_ _ (i_ _ rfl),rfl,rfl⟩ (by rw[H_,Z]) fun b o x=>a_ _ (a_ _ x)⟩
end
theorem Il{σ:L2.St}{ch:List Addr}{T:Addr}{o:HO}{t':Nat}(I:Inv X pz σ H s)(U:∀b∈ch,dG X pz H b)(k:∀b a,b∉ch->s.heap.get? b=some a->h'.get? b=some a)(h:s.heap.objs.size<=T)(g:df X.prog X.w (aO H T o) h' T o):Inv X pz σ (aO H T o) { s with heap:=h',toks:=t' }:=by
 have Z:H T=none:=I.hok.fresh h;have trk:∀b u,H b=some u->b∉ch:=fun b u e f=>by rw[(U b f).1]at e;cases e
 have Y:∀b a,s.heap.get? b=some a->b≠T:=fun b a e=>z_ (B_ (o_ e) h);have L:∀b u,H b=some u->aO H T o b=some u:=fun b u e=>by rw[bN (ko e Z)];exact e
 refine I.step (g':=s.gens) (d':=s.drawn) (ch:=ch) (fun b f=>?_) (fun b a _ _ d e _=>k b a d e) (fun b a _ _ d e _=>⟨a.slots,k b a d e⟩) (fun b a d e n=>by rw[bN (Y b a e)];exact n)
  (fun b a d e=>⟨a,k b a d e⟩) (fun b i e=>L b _ e) (fun b a u e=>L b _ e) (fun b l e=>⟨#[],by rw[L b _ e];simp⟩) (fun m j=>?_) (fun b u e=>?_) I.bare
 .obtain⟨z0,z1,z2,z3,z4,z5⟩:=U b f;exact⟨z3,z1,z4,z5⟩
 .obtain⟨a,es,ep,ho,r⟩:=j;exact⟨a,es,ep,k _ a (fun f=>(U _ f).2.1 rfl) ho,r⟩
 .by_cases f:b=T
  .subst f;rw[bV]at e;cases e;exact g
  .rw[bN f]at e;refine(I.hok b u e).stay (fun c v d q=>k c v ?_ q) (fun c q=>L c _ q) fun c i q=>L c _ q;rcases d with z|z
   .rw[z];exact trk b u e
   .exact trk c _ z
def mT(sq:Hp->List V->Prop):It:=⟨fun i H=>∃xs x,sq H xs/\xs[i]? = some x,fun i H x H'=>∃p v,H p=none/\x=.ref p/\H'=aO H p (.tup [.int i,v])/\∀xs,sq H xs->xs[i]? = some v,fun i H=>∃xs,sq H xs/\xs.length=i⟩
theorem O8{i:Nat}{L:Tok}{x:Value}{v:V}(U:h.get? T=some { cls:=.type "tuple",data:=.seq #[.int i L,x] })(r:L2.av v x):df P w H h T (.tup [.int i,v]):=⟨by show 2<=sizeLine;decide,_,.cons ⟨L,rfl⟩ (.cons r .nil),⟨_,U,rfl,0,rfl⟩,_,U,rfl⟩
def fD(K:W.Frag)(t:Bool)(a:Addr)(H:Hp)(xs:List V):Prop:=match t with
|false=>bp K H a xs
|true=>cg K H a xs
def kP(t:Bool)(a u:Addr)(i:Nat)(h:Heap):Prop:=match t with
|false=>h.IsListIter u a i
|true=>h.IsTupleIter u a i
def lK(t:Bool)(a:Addr)(xs:Array Value)(h:Heap):Prop:=match t with
|false=>h.IsList a xs
|true=>h.IsTuple a xs
theorem nt{a u:Addr}(e:kP t a u i h):∃o,h.get? u=some o/\∀v,o.data≠.cell v:=by cases t <;> (obtain⟨o,L,Y,U⟩:=e;simp_all)
theorem nA{a u:Addr}(e:kP t a u i h)(k:∀o,h.get? u=some o->h'.get? u=some o):kP t a u i h':=by cases t <;> (obtain⟨o,L,r⟩:=e;exact⟨o,k o L,r⟩)
theorem QD{a:Addr}(e:lK t a xs h)(k:∀o,h.get? a=some o->h'.get? a=some o):lK t a xs h':=by cases t <;> (obtain⟨o,L,r⟩:=e;exact⟨o,k o L,r⟩)
section
variable{X:Cx}{pz:List (Addr×Obj)}{σ:L2.St}{H:Hp}{s:c_}{t:Bool}{a u:Addr}{xs ys:List V}{i:Nat}
theorem r6(I:Inv X pz σ H s)(hq:fD X.K t a H xs):∃its:List Value,ar xs its/\lK t a its.toArray s.heap:=by cases t with
|false=>obtain⟨its,L,p,U⟩:=I.list hq;exact⟨its,L,p.isList⟩
|true=>obtain⟨its,L,p,U⟩:=I.tuple hq;exact⟨its,L,p⟩
theorem m6(I:Inv X pz σ H s)(c:X.calm=true)(hq:fD X.K t a H xs)(L:a≠u)(Z:kP t a u i s.heap):∃(its:List Value)(St:Nat->Heap->Prop),ar xs its/\ó X.prog X.w X.A.in1 u [u,a] its.toArray.size (fun i v=>its.toArray[i]? = some v) St/\St i s.heap/\∀j h',St j h'->kP t a u j h':=by obtain⟨its,Y,p⟩:=r6 I hq;have b:X.A.in1.handled=none:=I.ok.hd c;cases t with
|false=>exact⟨its,_,Y,Qfc b u a L its.toArray,⟨Z,p⟩,fun j h' U=>U.1⟩
|true=>exact⟨its,_,Y,Lf b u a L its.toArray,⟨Z,p⟩,fun j h' U=>U.1⟩
theorem yI(I:Inv X pz σ H s)(U:fD X.K t a H xs)(L:fD X.K t a H ys):xs=ys:=by cases t with
|false=>exact I.list_inj U L
|true=>exact I.tuple_inj U L
theorem nC(I:Inv X pz σ H s)(Y:fD X.K t a H xs):a<s.heap.objs.size:=by obtain⟨L,Z,p⟩:=r6 I Y;cases t <;> (obtain⟨o,U,_⟩:=p;exact o_ U)
end
theorem JK{t:Bool}(a l e:Addr)(U:e≠l)(Y:a≠l)(Cl:e≠a):Turn P w K (.Tuple r k pos) (mT (fD K t a)) [e,l] e (fun i h=>(∃c,IsEnum h e l i c)/\kP t a l i h) where
 mem:=by simp
 obj:=fun i h g b d=>by
  obtain⟨⟨c,f⟩,m⟩:=g;rcases s_.mp d with rfl|d
  .exact⟨_,f,fun v z=>by have z':Data.fields _=Data.cell v:=z;cases z'⟩
  .rw[YA.mp d];exact nt m
 keep:=fun i h h' g T=>by obtain⟨⟨c,f⟩,m⟩:=g;exact⟨⟨c,T e (by simp) _ f⟩,nA m fun o q=>T l (by simp) o q⟩
 item:=by
  intro X p G O N i pz s σ H E I C g M;subst p G O;obtain⟨xs,x,B,n⟩:=M;obtain⟨⟨c,f⟩,m⟩:=g;obtain⟨j,St,A,R,Q,f1⟩:=m6 I N B Y m;obtain⟨o1,Id,_⟩:=nt m;have J:i<j.toArray.size:=by have:=(h_.mp n).1;rw[A_,<-A.length];exact this
  refine wpAny_pyNext_enum_itemD R f Q J U (by simp[U,Cl]) fun y h' S p ho IO hT hsz hk=>?_;refine⟨_,rfl,wpAny_letOwnedTupleGo_enum ho fun Z ac L=>?_⟩;obtain⟨u,hu,ru⟩:=A.get n;have F:y=u:=by
   have:j[i]? = some y:=by simpa using p
   rw[hu]at this;exact(K_ this).symm
  subst F;have KK:s.heap.objs.size≠e:=YS (o_ f);have BT:Z.get? s.heap.objs.size=some { cls:=.type "tuple",data:=.seq #[.int i S,y] }:=(L.2 _ KK).trans hT;refine⟨.ref s.heap.objs.size,aO H s.heap.objs.size (.tup [.int i,x]),Il (s:=s) (h':=Z) (t':=S+1) (ch:=[e,l]) I C (fun b ob d q=>?_) (q_ _) (O8 BT ru),rfl,⟨_,x,I.hok.fresh (q_ _),rfl,rfl,fun ys F=>by rw[yI I F B];exact n⟩,⟨⟨_,by simpa using ac⟩,nA (f1 _ _ IO) fun o q=>(L.2 _ (ZM U)).trans q⟩,fun b d=>?_⟩
  .have hbe:b≠e:=fun z=>d (by simp[z]);exact(L.2 b hbe).trans (hk b ob hbe (fun z=>d (by simp[z])) q)
  .rw[bN ?_]
   .exact(C b d).1
   .rcases s_.mp d with rfl|d
    .exact z_ (o_ f)
    .rw[YA.mp d];exact z_ (o_ Id)
 done:=by
  intro X p G O N i pz s σ H E I C g M;subst p G O;obtain⟨xs,B,n⟩:=M;obtain⟨⟨c,f⟩,m⟩:=g;obtain⟨j,St,A,R,Q,f1⟩:=m6 I N B Y m;obtain⟨f0,f1,f2,f3,f4,f5⟩:=C l (by simp);have hn:j.toArray.size=i:=by rw[A_,<-A.length];exact n
  exact wpAny_pyNext_enum_endD R f (by rw[hn];exact Q) fun h' eb=>⟨rfl,I.turned (t':=s.toks) (fun b o d q=>eb b o d q) f0 f1 f3 f4 f5⟩
 self:=fun _ _ _ _ _ g h=>let⟨⟨_,f⟩,_⟩:=g;ū f h
end
def i9:D->Option String
|.non=>some "NoneType"
|.bl _=>some "bool"
|.int _=>some "int"
|.str _=>some "str"
|.tup _=>some "tuple"
|.lst _=>some "list"
|.dic _=>some "dict"
|.obj _ _=>none
def cQ(t T:String):Bool:=t==T || (t == "bool" && T == "int")
def jG(T:String)(d:D):Option D:=(i9 d).map fun t=>.bl (cQ t T)
def DQ(K:W.Frag)(x:V)(H:Hp)(t:String):Prop:=match x with
|.non=>t = "NoneType"
|.bl _=>t = "bool"
|.int _=>t = "int"
|.str _=>t = "str"
|.ref p=>(t = "list"/\∃xs,bp K H p xs)\/(t = "tuple"/\∃xs,cg K H p xs)\/(t = "dict"/\∃kvs,Rd H p (.dK kvs))
|_=>False
theorem FX(L:bi K G H)(h:RB K G H v d)(e:i9 d=some t):DQ K v H t:=by cases d with
|non=>cases e;rw[h.non L];rfl
|bl b=>cases e;rw[h.bl L];rfl
|int i=>cases e;rw[h.int L];rfl
|str x=>cases e;rw[h.str L];rfl
|tup Y=>cases e;obtain⟨a,U,rfl,s,r⟩:=h.tup L;exact .inr (.inl ⟨rfl,U,s⟩)
|lst Y=>cases e;obtain⟨a,U,rfl,s,r⟩:=h.lst L;exact .inl ⟨rfl,U,s⟩
|dic Y=>cases e;obtain⟨a,U,rfl,s,r⟩:=h.dic L;exact .inr (.inr ⟨rfl,U,s⟩)
|obj _ _=>cases e
variable{p2:Pos}
theorem Qd:dJ X (.builtin "isinstance") (fun xs H Q=>∃x t T b,xs=[x,.ty T]/\DQ X.K x H t/\W.kitOne X.K (.type t) (.type T)=some b/\Q (.bl b) H):=by
 intro g s d H xs n Q I r h;obtain⟨x,t,T,b,rfl,L,e,q⟩:=h;obtain⟨u,m,rfl,U,f⟩:=rE r;cases f;have fin:∀Z,EP X g d Q _ { s with toks:=Z }:=fun Z=>⟨.bl b,H,I.tok Z,rfl,q⟩
 cases x with
|non=>cases U;cases(L);exact W.kia_one W.kitx_none I.kIn True.intro e (by simp_all) fin
|bl y=>cases U;cases(L);exact W.kia_one W.kitx_bool I.kIn True.intro e (by simp_all) fin
|int i=>obtain⟨t,rfl⟩:=U;cases L;exact W.kia_one W.kitx_int I.kIn True.intro e (by simp_all) fin
|str i=>obtain⟨t,rfl⟩:=U;cases L;exact W.kia_one W.kitx_str I.kIn True.intro e (by simp_all) fin
|ref p=>
  cases U;rcases L with⟨rfl,xs,Y⟩|⟨rfl,xs,Y⟩|⟨rfl,j,Y⟩
  .obtain⟨its,_,pl,_⟩:=I.list Y;obtain⟨o,a,c,_⟩:=pl.isList;exact W.kia_one W.kitx_list I.kIn ⟨o,a,c⟩ e (by grind) fin
  .obtain⟨its,_,pl,_⟩:=I.tuple Y;obtain⟨o,a,c,_⟩:=pl;exact W.kia_one W.kitx_tuple I.kIn ⟨o,a,c⟩ e (by grind) fin
  .obtain⟨_,_,vs,_,pp⟩:=(Y.ok I.hok)
   obtain⟨o,v,w,l,k,_⟩:=pp;exact W.kia_one W.kitx_dict I.kIn ⟨o,l,k.1⟩ e (by grind) fin
|_=>exact(L).elim
theorem lh(x:Str)(T:String)(l:Ï x=some (.type T))(s:∀(d:D)(t:String),i9 d=some t->W.kitOne X.K (.type t) (.type T)=some (cQ t T))(u:Gl X "isinstance")(o:X.mg "isinstance" = none)(U:Gl X x)(Y:X.mg x=none)(w:SB X g m e f)(n:x≠"__name__" := by decide)(y:(x==("__debug__" : Str))=false:=by decide)(L:f_ [e,.Name x p2] X.env=(false,eval e X.env)::f_ [.Name x p2] X.env:=by rfl)(Z:f_ [.Name x p2] X.env=(false,eval (.Name x p2) X.env)::f_ [] X.env:=by rfl)(a:(backTo pos (f_ [.Name x p2] X.env)).any (·.1)=false:=by rfl):SE X g m (.Call (.Name "isinstance" p) [e,.Name x p2] [] pos) (f1 f (jG T)):=by
 refine PE.imp (i7 Qd u o (by first|grind|rfl) (fZ w (fZ (yW (v:=.ty T) U Y l rfl n y) iZ Z) L) (by decide) (by decide) L a) fun B H Q ⟨r,G,i,q⟩=>⟨r,G,i,bu (bv q) fun d q1 v A z h j=>?_⟩
 obtain⟨C,c,k⟩:=cJ q1;unfold jG at c;cases b:i9 d with
|none=>simp_all
|some t=>rw[b]at c;cases c;exact⟨v,t,T,_,rfl,FX h.ok j b,s d t b,k _ A z h (.scl (.bl _))⟩
theorem pH(h:i9 d=some t){P:String->Prop}(c:P "NoneType")(b:P "bool")(a:P "int")(Z:P "str")(Y:P "tuple")(U:P "list")(L:P "dict"):P t:=by cases d <;> cases h <;> assumption
theorem Pd(K:W.Frag)(d:D)(t:String)(h:i9 d=some t):W.kitOne K (.type t) (.type "int")=some (cQ t "int"):=pH (P:=fun t=>W.kitOne K (.type t) _=some (cQ t "int")) h (rfl) (rfl) (rfl) (rfl) (rfl) (rfl) (rfl)
theorem sG(K:W.Frag)(d:D)(t:String)(h:i9 d=some t):W.kitOne K (.type t) (.type "bool")=some (cQ t "bool"):=pH (P:=fun t=>W.kitOne K _ _=some (cQ t "bool")) h (rfl) (rfl) (rfl) (rfl) (rfl) (rfl) (rfl)
theorem PR(K:W.Frag)(d:D)(t:String)(h:i9 d=some t):W.kitOne K (.type t) (.type "list")=some (cQ t "list"):=pH (P:=fun t=>W.kitOne K _ _=some (cQ t "list")) h (rfl) (rfl) (rfl) (rfl) (rfl) (rfl) (rfl)
theorem IM(K:W.Frag)(d:D)(t:String)(h:i9 d=some t):W.kitOne K (.type t) (.type "tuple")=some (cQ t "tuple"):=pH (P:=fun t=>W.kitOne K _ _=some (cQ t "tuple")) h (rfl) (rfl) (rfl) (rfl) (rfl) (rfl) (rfl)
variable{pos2:Pos}
def fL(lo:Int)(n:Nat):List V:=(d_ n).map fun(i:Nat)=>V.int (lo+(i:Int))
theorem Ng(lo:Int)(n:Nat):bJ K G (fL lo n) (dO lo n):=by
 unfold fL dO
 induction(d_ n)with
|nil=>exact .nil
|cons i l L=>exact .cons (.scl (.int _)) L
theorem Bt:∀{xs:List V}{U:List Value},xs.length=U.length->(∀(j:Nat) v u,xs[j]? = some v->U[j]? = some u->L2.av v u)->ar xs U
|[],[],_,_=>.nil
|v::xs,u::U,L,h=>.cons (h 0 v u rfl rfl) (Bt (by simpa using L) fun j a b Z Y=>h (j+1) a b (by simpa using Z) (by simpa using Y))
|[],_::_,L,_=>by simp at L
|_::_,[],L,_=>by simp at L
theorem Qi{lo:Int}(h:ć (fun i v=>∃t,v=.int (lo+i*1) t) L n):ar (fL lo n) L.toList:=by
 refine Bt (by simp[fL,h.1]) fun j v u U Z=>?_;have Y:j<n:=by have:=(h_.mp U).1;simpa[fL]using this
 unfold fL at U;rw[l_,Y_ Y]at U;cases U;obtain⟨t,rfl⟩:=h.2 j u (by rw[<-N_];exact Z);exact⟨t,by simp⟩
theorem Rs:dJ X (.type "range") (fun xs H Q=>∃j,xs=[.int j]/\∀p,H p=none->Q (.ref p) (aO H p (.rng 0 j))):=by intro Y s L H xs U Q I r h;obtain⟨j,rfl,q⟩:=h;obtain⟨u,rfl,t,rfl⟩:=bA r;refine call_range_1 ⟨.ref s.heap.objs.size,_,I.laid (o:=.rng 0 j) (fun b o e=>a_ _ e) (q_ _) ⟨_,_,_,i_ _ rfl⟩,rfl,q _ (I.hok.fresh (q_ _))⟩
theorem UA(e:X.calm=true):dJ X (.type "list") (fun xs H Q=>∃p lo U,xs=[.ref p]/\H p=some (.rng lo U)/\(-(2^62)<=lo/\lo<2^62/\-(2^62)<=U/\U<2^62)/\(U-lo).toNat<=sizeLine/\∀l,H l=none->Q (.ref l) (aO H l (.lst (fL lo (U-lo).toNat)))):=by
 intro z s o H xs x Q I r h;obtain⟨p,lo,U,rfl,c,⟨j,i,g,f⟩,b,q⟩:=h;obtain⟨u,rfl,Z⟩:=bA r;cases Z;obtain⟨t,u,v,d⟩:=(I.hok p _ c)
 have m:QcE lo U 1=(((U-lo).toNat)):=by rw[rangeSize_one];split <;> omega
 refine call_list_range (I.ok.hd e) d (small_one j i g f) m (by rw[O_]at b;omega) fun k y Y n a A L=>?_;refine⟨.ref s.heap.objs.size,_,I.laid a (q_ _) (show df X.prog X.w _ k _ (.lst _)from⟨by unfold fL;grind,Y.toList,n,Qi L,by omega⟩),rfl,q _ (I.hok.fresh (q_ _))⟩
def lP:List D->Option D
|[.int j]=>if-(2^62)<=j/\j<2^62/\j.toNat<=sizeLine then some (.lst (dO 0 j.toNat))else none
|_=>none
theorem Lj{p l:Addr}(h:aO H p o l=none):H l=none/\l≠p:=by
 by_cases e:l=p
 .subst e;rw[bV]at h;cases h
 .rw[bN e]at h;exact⟨h,e⟩
theorem Gy(x:X.calm=true)(Y:Gl X "list")(Z:X.mg "list" = none)(w:Gl X "range")(u:X.mg "range" = none)(y:fF X g m [a] fl)(hs:f_ [a] X.env=(false,eval a X.env)::f_ [] X.env:=by rfl)(U:f_ [.Call (.Name "range" p2) [a] [] pos2] X.env=(false,eval (.Call (.Name "range" p2) [a] [] pos2) X.env)::f_ [] X.env:=by rfl):SO X g m (.Call (.Name "list" p) [.Call (.Name "range" p2) [a] [] pos2] [] pos) (fC fl lP):=by
 refine PE.imp (pG (UA x) Y Z rfl (fZ (pG Rs w u boot_range y (by decide) (by decide) hs rfl) iZ U) (by decide) (by decide) U rfl) fun A H Q ⟨r,G,i,q⟩=>⟨r,G,i,bu (bv q) fun C q1 B z E b k=>?_⟩
 obtain⟨d,e,o⟩:=cJ q1;unfold lP at e;split at e
 .split at e
  .rename_i j hj;cases e;cases k with
  |cons n t=>cases t;refine⟨j,by rw[n.int b.ok],fun p s=>⟨p,0,j,rfl,bV,⟨by decide,by decide,hj.1,hj.2.1⟩,by simpa using hj.2.2,fun l f=>?_⟩⟩;obtain⟨L,v⟩:=Lj f;have c:=Grow.new b.ok s (.rng 0 j);have h:=Grow.new c.ok f (.lst (fL 0 (j-0).toNat));refine o l z _ (b.trans (c.trans h)) (b.back L) ⟨b.ok.isN L,.lst bV ?_⟩;rw[show j-0=j by omega];exact Ng 0 _
  .cases e
 .cases e
def DW(K:W.Frag)(r:V->List V->Hp->VK->Prop)(k:D->List D->Option D):Prop:=∀(G:GH)(H:Hp)(v:V)(d:D)(vs:List V)(ds:List D)(d':D)(Q:VK),bi K G H->RB K G H v d->Paired (RB K G H) vs ds->k d ds=some d' ->(∀v' G' H',Grow K G H G' H'->RG K G' v' d'->Q v' H')->r v vs H Q
def uO(T:String):D->Bool
|.lst _=>T == "list"
|.tup _=>T == "tuple"
|.dic _=>T == "dict"
|.str _=>T == "str"
|.int _=>T == "int"
|_=>false
theorem Oj(L:bi K G H)(h:RB K G H v d)(t:uO T d=true):nW K T v H:=by cases d with
|lst Y=>obtain⟨a,U,rfl,s,r⟩:=h.lst L;exact .inl ⟨í t,U,s⟩
|tup Y=>
  have e:T = "tuple" := í t;rcases h with h|⟨a,rfl,o⟩
  .cases h with
  |scl s=>cases s
  |ref q=>cases L _ _ q with
   |tup r s=>exact .inr (.inl ⟨e,.inr ⟨_,r⟩⟩)
  |kc k=>cases k with
   |tup r s z=>exact .inr (.inl ⟨e,.inl z⟩)
  .cases o.ob
|dic Y=>obtain⟨a,U,rfl,s,r⟩:=h.dic L;exact .inr (.inr (.inl ⟨í t,.inl ⟨U,s⟩⟩))
|str x=>rw[h.str L];exact í t
|int x=>rw[h.int L];exact í t
|_=>cases t
def fM(T:String)(fo:FE)(fl:am->Res (List D))(k:D->List D->Option D):FE:=fun r=>(fo r).bind fun d=>if uO T d=true then(fl r).bind fun ds=>dD (k d ds)else .stuck
section
variable{o:Expr}{fo:FE}{apos cpos:Pos}{x name:Str}{T id:String}{R:V->List V->Hp->VK->Prop}{k:D->List D->Option D}
theorem iA(u:ľ T)(a:Slot T name id)(P:typeOf (.builtin id)=pure (.type "method_descriptor"))(S:mS X id R)(y:DW X.K R k)(w:SB X g m o fo)(A:fF X g m (e::es) fl)(U:Ì o name X.env (eval o X.env)=eval o X.env:=by rfl)(Z:((backTo cpos (f_ (e::es) X.env)).all (fun x=>! x.1)&&(Ò cpos (Ð [] X.env)).all (fun x=>x.1.isSome)&&decide ((e::es).length+([]:List À).length+(if ([]:List À).isEmpty then 0 else 1)<30))=true:=by rfl)(Y:(apos.endLine==cpos.line)=true:=by rfl)(F:f_ (e::es) X.env=(false,eval e X.env)::f_ es X.env:=by rfl)(L:(backTo cpos (f_ es X.env)).any (·.1)=false:=by rfl):SE X g m (.Call (.Attribute o name apos) (e::es) [] cpos) (fM T fo fl k):=by
 refine PE.imp (vX u a P S w A U Z Y F L) fun W H Q ⟨r,G,h,q⟩=>⟨r,G,h,bu (bv q) fun d q1 v N H1 b i=>?_⟩
 by_cases f:uO T d=true
 .rw[Q_e f]at q1;refine⟨Oj b.ok i f,r,N,h.grow b,ic (bv q1) b fun C t l M I c p=>?_⟩;obtain⟨E,B,s⟩:=cJ t;exact y M I v d l C E Q c.ok (i.mono c) p B fun n O J j z=>s n O J ((b.trans c).trans j) z
 .rw[Q_f f]at q1;exact q1.elim
def kg(x:V):List V->Option Nat
|[]=>none
|y::xs=>if iL y x=true then some 0 else(kg x xs).map (· + 1)
def ji(x:D):List D->Option Nat
|[]=>none
|y::xs=>if gZ y x=true then some 0 else(ji x xs).map (· + 1)
theorem HA(x:D):∀ds:List D,kg (iz x) (ds.map iz)=ji x ds
|[]=>rfl
|y::ds=>by show(if iL _ _=true then some 0 else(kg _ _).map _)=if gZ y x=true then some 0 else(ji x ds).map _;rw[HA x ds];rfl
theorem Hz{x:V}(g:ar xs U)(f:xs.all gm=true)(h:kg x xs=some j):∃k:j<U.length,iM x U[j]=true/\∀i (Z:i<U.length),i<j->iM x U[i]=false:=by induction g generalizing j with
|nil=>cases h
|@cons y u xs U r t d=>
  rw[ĝ,R_]at f;unfold kg at h;by_cases Y:iL y x=true
  .rw[Q_e Y]at h;cases h;exact⟨Nat.zero_lt_succ _,by show iM x u=true;rw[rR r f.1];exact Y,fun i _ L=>Q_g L (Ņ _)⟩
  .rw[Q_f Y]at h;cases e:kg x xs with
  |none=>rw[e]at h;cases h
  |some z=>rw[e]at h;cases h;obtain⟨a,b,c⟩:=d f.2 e;refine⟨Nat.succ_lt_succ a,b,fun i Z L=>?_⟩;cases i with
   |zero=>show iM x u=false;rw[rR r f.1];simpa using Y
   |succ i=>exact c i (Qbo Z) (Qbo L)
def Hn(K:W.Frag):V->List V->Hp->VK->Prop:=fun x vs H Q=>∃p xs y j,x=.ref p/\vs=[y]/\bp K H p xs/\gm y=true/\xs.all gm=true/\kg y xs=some j/\Q (.int j) H
def Ho(K:W.Frag):V->List V->Hp->VK->Prop:=fun x vs H Q=>∃p xs y j,x=.ref p/\vs=[y]/\cg K H p xs/\gm y=true/\xs.all gm=true/\kg y xs=some j/\Q (.int j) H
theorem RZ:mS X "list.index" (Hn X.K):=by
 intro T s O H x R v S Q I z A h;obtain⟨p,P,y,j,rfl,rfl,J,N,t,e,q⟩:=h;cases z;obtain⟨u,rfl,B⟩:=bA A;obtain⟨Z,r,C,E⟩:=I.list J;obtain⟨o,n,k,m,l,g⟩:=C;obtain⟨a,b,c⟩:=Hz r t e;have W:=r.length;obtain⟨f,U,Y,L⟩:=o;simp only at m l g;subst m l g;refine õ QcJ ⟨_,k,rfl⟩ PySem.F.entry_list_index (PySem.F.args_list_index_2 _ _)
  (SeqAt.list_indexAt p Z.toArray n none L u (iM y) j (by simpa using a) (by rw[O_]at E;omega) (by simpa using b) (fun i M d=>by simpa using c i (by simpa using M) d)) ⟨k,fun w G=>mf B N r t w (by simpa using G),⟨.int j,H,I.tok _,⟨_,rfl⟩,q⟩⟩
theorem pF:mS X "tuple.index" (Ho X.K):=by
 intro R s M H x O v P Q I t z h;obtain⟨p,N,y,j,rfl,rfl,E,J,m,e,q⟩:=h;cases t;obtain⟨u,rfl,A⟩:=bA z;obtain⟨Z,r,B,S⟩:=I.tuple E;obtain⟨o,k,l,n,g⟩:=B;obtain⟨a,b,c⟩:=Hz r m e;have T:=r.length;obtain⟨f,U,Y,L⟩:=o;simp only at l g;subst l g;refine õ Zo ⟨_,k,rfl⟩ PySem.F.entry_tuple_index (PySem.F.args_tuple_index_2 _ _)
  (Ux p Z.toArray n U L u (iM y) j (by simpa using a) (by simpa using b) (fun i G d=>by simpa using c i (by simpa using G) d)) ⟨k,fun w C=>mf A J r m w (by simpa using C),⟨.int j,H,I.tok _,⟨_,rfl⟩,q⟩⟩
def E2:D->List D->Option D
|.lst ds,[x]=>if cN x=true/\ds.all cN=true then(ji x ds).map fun j=>.int j else none
|.tup ds,[x]=>if cN x=true/\ds.all cN=true then(ji x ds).map fun j=>.int j else none
|_,_=>none
theorem JR{ds:List D}{x d':D}{v:V}(Y:bi K G H)(a:bJ K G xs ds)(Z:RB K G H v x)(e:(if cN x=true/\ds.all cN=true then(ji x ds).map fun j=>D.int j else none)=some d'):∃j:Nat,d'=.int j/\gm v=true/\xs.all gm=true/\kg v xs=some j:=by
 by_cases L:cN x=true/\ds.all cN=true
 .rw[Q_e L]at e;obtain⟨c,f1⟩:=RB.flat Z Y L.1;obtain⟨b,f3⟩:=Ed a Y L.2;cases U:ji x ds with
 |none=>rw[U]at e;cases e
 |some j=>rw[U]at e;cases e;exact⟨j,rfl,f1,f3,by rw[c,b,HA];exact U⟩
 .rw[Q_f L]at e;cases e
def zu(d:D)(ds:List D):Option D:=match d with
|.lst _=>E2 d ds
|_=>none
def km(d:D)(ds:List D):Option D:=match d with
|.tup _=>E2 d ds
|_=>none
theorem Rf:DW K (Hn K) zu:=by intro G H v d l i m Q L Y b e q;cases d with
|lst k=>cases i with
 |nil=>cases e
 |cons x t=>cases t with
  |nil=>cases b with
   |cons c Z=>cases Z;obtain⟨a,U,rfl,s,r⟩:=Y.lst L;obtain⟨j,rfl,h,g,f⟩:=JR L r c e;exact⟨a,U,_,j,rfl,rfl,s,h,g,f,q _ G H (Grow.refl L) (.scl (.int _))⟩
  |cons _ _=>cases e
|_=>cases e
theorem pD:DW K (Ho K) km:=by intro G H v d l i m Q L Y b e q;cases d with
|tup k=>cases i with
 |nil=>cases e
 |cons x t=>cases t with
  |nil=>cases b with
   |cons c Z=>cases Z;obtain⟨a,U,rfl,s,r⟩:=Y.tup L;obtain⟨j,rfl,h,g,f⟩:=JR L r c e;exact⟨a,U,_,j,rfl,rfl,s,h,g,f,q _ G H (Grow.refl L) (.scl (.int _))⟩
  |cons _ _=>cases e
|_=>cases e
end
def cB:Nat->List D->List D
|_,[]=>[]
|i,d::ds=>.tup [.int i,d]::cB (i+1) ds
theorem pv:∀(i:Nat)(ds:List D),(cB i ds).length=ds.length
|_,[]=>rfl
|i,d::ds=>Q_h (· + 1) (pv _ ds)
theorem zC:∀(i j:Nat)(ds:List D),(cB i ds)[j]? = (ds[j]?).map fun d=>D.tup [.int ((i+j:Nat):Int),d]
|_,_,[]=>by simp[cB]
|i,0,d::ds=>by simp[cB]
|i,j+1,d::ds=>by
  show(cB _ ds)[j]? = _;rw[zC _ j ds]
  grind
theorem Hd{ds:List D}(h:∀G H,bI Z G->bi K G H->∃xs,Y H xs/\bJ K G xs ds):Yields K (mT Y) (cB 0 ds) Z:=by
 refine⟨fun G H i w L f=>?_,fun G H i x m d w L y e=>?_,fun G H w L=>?_⟩
 .obtain⟨xs,s,r⟩:=h G H w L;rw[pv]at f;have k:=Paired.length r;exact⟨xs,xs[i],s,by grind⟩
 .obtain⟨xs,s,r⟩:=h G H w L;obtain⟨p,v,c,rfl,rfl,b⟩:=y;rw[zC]at e;cases U:ds[i]? with
 |none=>rw[U]at e;cases e
 |some l=>rw[U]at e;simp  at e;subst e;obtain⟨j,g,a⟩:=Paired.get r U;have:=b xs s;rw[g]at this;cases this;exact⟨_,Grow.newF L c (.tup (.inl bV) (.cons (.scl (.int _)) (.cons a .nil))),.ref ga⟩
 .obtain⟨xs,s,r⟩:=h G H w L;rw[pv];exact⟨xs,s,Paired.length r⟩
def jH(f:FE):FI:=fun r=>(f r).bind fun d=>(dD (bQ d)).bind fun ds=>.ok (cB 0 ds)
section
variable{elts:List Expr}{kk:Nat}
theorem GG(F:Gl X "enumerate")(E:X.mg "enumerate" = none)(f:PE X e r)(hs:f_ [e] X.env=(false,eval e X.env)::f_ [] X.env:=by rfl):PI X (.Tuple elts kk pos2) (.Call (.Name "enumerate" p) [e] [] pos) (fun σ H R=>r σ H fun x U=>(∃a,x=.ref a/\(∃xs,bp X.K U a xs)/\R (mT fun H xs=>bp X.K H a xs) U)\/∃a,x=.ref a/\(∃xs,cg X.K U a xs)/\R (mT fun H xs=>cg X.K H a xs) U):=by
 intro w s σ H R I h;refine Call_ (iq I F E boot_enumerate (YD (aW (fZ f iZ hs pos w s σ H (fun n U=>match n with
 |[x]=>(∃a,x=.ref a/\(∃xs,bp X.K U a xs)/\R (mT fun H xs=>bp X.K H a xs) U)\/∃a,x=.ref a/\(∃xs,cg X.K U a xs)/\R (mT fun H xs=>cg X.K H a xs) U
 |_=>False) I h) fun z Y e=>?_) hs rfl));obtain⟨n,U,Z,C,q1⟩:=e
 .cases C with
 |nil=>exact q1.elim
 |@cons x u xs z v B=>cases B with
 |cons _ _=>exact q1.elim
 |nil=>
  have fin:∀{j:Heap},j.objs.size=Y.heap.objs.size+2->(∀b o,Y.heap.get? b=some o->j.get? b=some o)->∀b∈[Y.heap.objs.size+1,Y.heap.objs.size],dG X w U b:=fun y g b m=>by
   have L:Y.heap.objs.size<=b:=by
    rcases s_.mp m with rfl|m
    .exact Ċ _
    .rw[YA.mp m];exact q_ _
   exact Z.fpOk L (Z.hok.fresh L)
  rcases q1 with⟨a,rfl,⟨xs,d⟩,q⟩|⟨a,rfl,⟨xs,d⟩,q⟩
  .cases v;obtain⟨i,A,k,y⟩:=Z.list d;refine call_enumerate_list k.isList fun j f l c g=>ū f ?_;exact⟨_,[Y.heap.objs.size+1,Y.heap.objs.size],_,_,U,rfl,Z.kept (t':=Y.toks) g,JK (t:=false) a _ _ (YS (Zi _)) (z_ (nC (t:=false) Z d)) (YS (Y2 (nC (t:=false) Z d))),⟨⟨_,f⟩,l⟩,fin c g,q⟩
  .cases v;obtain⟨i,A,k,y⟩:=Z.tuple d;refine UK (show Y.heap.IsTuple a i.toArray from k) fun j f l c g=>ū f ?_;exact⟨_,[Y.heap.objs.size+1,Y.heap.objs.size],_,_,U,rfl,Z.kept (t':=Y.toks) g,JK (t:=true) a _ _ (YS (Zi _)) (z_ (nC (t:=true) Z d)) (YS (Y2 (nC (t:=true) Z d))),⟨⟨_,f⟩,l⟩,fin c g,q⟩
theorem ML(u:Gl X "enumerate")(t:X.mg "enumerate" = none)(x:SE X g m e f)(hs:f_ [e] X.env=(false,eval e X.env)::f_ [] X.env:=by rfl):gj X g m (.Tuple elts kk pos2) (.Call (.Name "enumerate" p) [e] [] pos) (jH f):=by
 refine PI.imp (GG u t x hs) fun y H R ⟨r,G,k,q⟩=>⟨r,G,k,bu (bv q) fun d q v i h w L=>?_⟩
 obtain⟨z,e,q⟩:=cJ (bv q);cases d with
|lst c=>
  obtain⟨a,U,rfl,s,n⟩:=L.lst w.ok;refine .inl ⟨a,rfl,⟨U,s⟩,q _ i h w (Hd fun G H Y Z=>?_)⟩;obtain⟨b,j,e,l,o⟩:=(L.mono Y).lst Z
  grind
|tup c=>
  obtain⟨a,U,rfl,s,n⟩:=L.tup w.ok;refine .inr ⟨a,rfl,⟨U,s⟩,q _ i h w (Hd fun G H Y Z=>?_)⟩;obtain⟨b,j,e,l,o⟩:=(L.mono Y).tup Z
  grind
|_=>cases e
end
def io(ns:List Int):List Int:=ns.foldl Qfd []
theorem T5(L:List Int):ď (fun i=>L.getD i 0) L.length=io L:=by unfold ď io;congr 1;refine š (by simp) fun i Y U=>?_;simp[G_,U]
def cP:List D->Option (List Int)
|[]=>some []
|.int i::ds=>(cP ds).map (i::·)
|_=>none
theorem ma(Z:bi K G H){ds:List D}(h:bJ K G xs ds)(e:cP ds=some L):xs=L.map V.int:=by induction h generalizing L with
|nil=>cases e;rfl
|@cons x d xs ds r t Y=>cases d with
 |int i=>have U:(cP ds).map (i::·)=some L:=e;cases q:cP ds with
  |none=>rw[q]at U;cases U
  |some a=>rw[q]at U;cases U;rw[r.int Z,Y q];rfl
 |_=>cases e
theorem Ru(j:X.calm=true):dJ X (.type "set") (fun xs H Q=>∃p U,xs=[.ref p]/\(bp X.K H p (U.map V.int)\/cg X.K H p (U.map V.int))/\U.length+1<é/\∀l,H l=none->Q (.ref l) (aO H l (.set (fun k=>(io U).any (· == k)) (io U).length))):=by
 intro t s m H xs v Q I r h;obtain⟨p,U,rfl,c,x,q⟩:=h;obtain⟨u,rfl,n⟩:=bA r;cases n;have fin:∀(L:List Value)(Y:Heap)(Z:Nat),L.length=U.length->Y.SetOf _ s.heap.objs.size (fun k=>(ď (fun i=>U.getD i 0) L.toArray.size).any _) (ď _ L.toArray.size).length ->(∀b o,b<s.heap.objs.size->s.heap.get? b=some o->Y.get? b=some o)->EP X t m Q _ { s with heap:=Y,toks:=Z }:=fun L Y Z a d f=>by rw[show L.toArray.size=U.length by omega,T5]at d;exact⟨.ref s.heap.objs.size,_,I.laid (fun b o e=>f b o (o_ e) e) (q_ _) (show df X.prog X.w _ Y _ (.set _ _)from d),rfl,q _ (I.hok.fresh (q_ _))⟩
 rcases c with c|c
 .obtain⟨L,r',pl,hz⟩:=I.list c;have a:=r'.length;rw[b_]at a;exact call_set_list (I.ok.hd j) pl.isList (by simpa using pM r') (by grind) fun Y Z d f=>fin L Y Z a.symm d f
 .obtain⟨L,r',pl,hz⟩:=I.tuple c;have a:=r'.length;rw[b_]at a;exact Um (I.ok.hd j) (pl) (by simpa using pM r') (by grind) fun Y Z g=>fin L Y Z a.symm g.1 g.2
theorem Rr:dJ X (.builtin "len") (fun xs H Q=>∃p S n,xs=[.ref p]/\H p=some (.set S n)/\Q (.int n) H):=by
 intro i s f H xs g Q I r h;obtain⟨p,S,n,rfl,Y,q⟩:=h;obtain⟨u,rfl,U⟩:=bA r;cases U;obtain⟨o,e,k,t,Z,L,c,_,_,d,b,a⟩:=(I.hok p _ Y)
 refine call_len_set Z L c b ?_ ⟨.int n,H,I.tok _,⟨_,by rw[a]⟩,q⟩;have j:(e.size)<4096:=by unfold é at d;omega
 grind
def rB:D->Option D
|.lst ds=>(cP ds).bind fun ns=>if ns.length+1<é then some (.int (io ns).length)else none
|.tup ds=>(cP ds).bind fun ns=>if ns.length+1<é then some (.int (io ns).length)else none
|_=>none
theorem Qs(C:X.calm=true)(B:Gl X "len")(A:X.mg "len" = none)(I:Gl X "set")(J:X.mg "set" = none)(E:SB X g m a f)(hs:f_ [a] X.env=(false,eval a X.env)::f_ [] X.env:=by rfl)(Y:f_ [.Call (.Name "set" p2) [a] [] pos2] X.env=(false,eval (.Call (.Name "set" p2) [a] [] pos2) X.env)::f_ [] X.env:=by rfl):SE X g m (.Call (.Name "len" p) [.Call (.Name "set" p2) [a] [] pos2] [] pos) (f1 f rB):=by
 refine PE.imp (i7 Rr B A Qe9 (fZ (pG (Ru C) I J (by first|exact PyProof.Rows.boot_set|rfl) (fZ E iZ hs) (by decide) (by decide) hs rfl) iZ Y) (by decide) (by decide) Y rfl) fun M H Q ⟨r,G,y,q⟩=>⟨r,G,y,bu (bv q) fun d q1 v x h o u=>?_⟩
 obtain⟨w,e,z⟩:=cJ q1;have U:∀{j:List D}{i:List V}{b:Addr},bJ X.K x i j->v=.ref b->(bp X.K h b i\/cg X.K h b i)->(cP j).bind (fun c=>if c.length+1<é then some (D.int (io c).length)else none)=some w ->∃p c,[v]=[V.ref p]/\(bp X.K h p (c.map V.int)\/cg X.K h p (c.map V.int))/\c.length+1<é/\∀l,h l=none->∃p S n,[V.ref l]=[V.ref p]/\aO h l (.set (fun k=>(io c).any (· == k)) (io c).length) p=some (.set S n)/\Q (.int n) (aO h l (.set (fun k=>(io c).any (· == k)) (io c).length)):=fun{j i b} rs ev hs he=>by cases t:cP j with
 |none=>rw[t]at he;cases he
 |some c=>
   rw[t]at he;have L:(if c.length+1<é then some (D.int (io c).length)else none)=some w:=he;by_cases s:c.length+1<é
   .rw[Q_e s]at L;cases L;have F:=ma o.ok rs t;subst F;exact⟨b,c,by rw[ev],hs,s,fun l Z=>⟨l,_,_,rfl,bV,z _ x _ (o.trans (Grow.new o.ok Z _)) (.scl (.int _))⟩⟩
   .rw[Q_f s]at L;cases L
 cases d with
|lst j=>obtain⟨b,i,ev,hs,rs⟩:=u.lst o.ok;exact U rs ev (.inl hs) e
|tup j=>obtain⟨b,i,ev,hs,rs⟩:=u.tup o.ok;exact U rs ev (.inr hs) e
|_=>cases e
theorem df.isS{a:Addr}(x:df P w H h a o):h.get? a≠none:=by
 have s:∀{u:Obj},h.get? a=some u->h.get? a≠none:=fun e z=>by rw[z]at e;cases e
 cases o with
|lst U=>obtain⟨_,_,_,_,e⟩:=x;exact s e
|tup U=>obtain⟨_,_,_,⟨_,e,_⟩,_⟩:=x;exact s e
|dK L=>obtain⟨_,_,_,_,o,_,_,e,_⟩:=x;exact s e
|dT L=>obtain⟨_,_,_,_,o,_,_,e,_⟩:=x;exact s e
|set S n=>obtain⟨o,_,_,_,e,_⟩:=x;exact s e
|ins C g Y=>obtain⟨_,_,_,e,_⟩:=x;exact s e
|own y=>obtain⟨_,e⟩:=x;exact s e
|xd Y=>obtain⟨_,⟨_,_,_,e,_⟩,_⟩:=x;exact s e
|rng lo d=>obtain⟨_,_,_,e⟩:=x;exact s e
|frz c u=>obtain⟨e,_⟩:=x;exact s e
|tbl b=>exact s (x)
|met f y=>exact s (x)
|ext Z=>obtain⟨_,⟨_,e⟩,_⟩:=x;exact s e
variable{H:Hp}
section
variable{pz:List (Addr×Obj)}{σ:L2.St}{s:c_}
theorem Jo(r:ar U Y):∀(L:List Nat),(∀i∈L,i<U.length)->ar (L.map fun i=>U.getD i .non) (L.map fun i=>Y.getD i Value.none)
|[],_=>.nil
|i::L,h=>by refine .cons ?_ (Jo r L fun j Z=>h j (k_ _ Z));have a:=h i m_;obtain⟨u,c,b⟩:=r.get (g_ a);simp_all
theorem Inv.laidN{D:Addr}{d:List V}{its:List Value}(I:Inv X pz σ H s)(l:s.heap.get? D=none)(x:D≠X.env.locals)(k:∀b o,b≠X.env.locals->s.heap.get? b=some o->h'.get? b=some o)(U:∀m,s.heap.Ns X.env.locals m->h'.Ns X.env.locals m)(h:h'.get? D=some { cls:=.type "list",data:=.seq its.toArray c })(g:ar d its)(hz:d.length<=sizeLine)(t':Nat):Inv X pz σ (aO H D (.lst d)) { s with heap:=h',toks:=t' }:=by
 have Z:H D=none:=by cases q:H D with
 |none=>rfl
 |some u=>exact Q_g l (df.isS (I.hok D u q))
 have neD:∀b o,s.heap.get? b=some o->b≠D:=fun b o e z=>by simp_all
 have L:∀b u,H b=some u->aO H D (.lst d) b=some u:=fun b u e=>by rw[bN (ko e Z)];exact e
 have w:∀b u,H b=some u->b≠X.env.locals:=fun b u e z=>by rw[z,I.free]at e;cases e
 refine I.step (ch:=[]) (by simp_all) (by simp_all) (fun b a j _ _ e _=>⟨a.slots,k b a j e⟩) (fun b a _ e n=>by rw[bN (neD b a e)];exact n)
  (fun b a _ e=>?_) (by simp_all) (by simp_all) (fun b r e=>⟨#[],by simp_all⟩) U (fun b u e=>?_) I.bare
 .by_cases hb:b=X.env.locals
  .subst hb;obtain⟨m,i,_⟩:=I.loc;obtain⟨o,_,_,Y,_⟩:=U m i;exact⟨o,Y⟩
  simp_all
 .by_cases hb:b=D
  .subst hb;rw[bV]at e;cases e;exact⟨hz,its,c,g,h⟩
  .rw[bN hb]at e;refine(I.hok b u e).stay (fun f v t q=>k f v ?_ q) (by simp_all) fun f p q=>L f _ q
   grind
theorem GT{h:Heap}{m m':Str->Option Value}(a:h.Ns L m)(b:h.Ns L m'):m=m':=by
 obtain⟨o,g,i,e,d,_,f⟩:=a;obtain⟨Z,U,Y,j,k,_,c⟩:=b
 grind
theorem Jk(h:i∈kd n c):i<n:=n_.mp ((JI n c).mem_iff.mp h)
end
section
variable{G:GH}
theorem HW{ds:List D}(r:bJ K G xs ds):∀(L:List Nat),(∀i∈L,i<ds.length)->bJ K G (L.map fun i=>xs.getD i .non) (L.map fun i=>ds.getD i .non)
|[],_=>.nil
|i::L,h=>by refine .cons ?_ (HW r L fun j U=>h j (k_ _ U));have Y:=h i m_;obtain⟨u,a,Z⟩:=Paired.get r (g_ Y);simp_all
end
end DL
namespace DL
open PySem PyProof.Rows PySem.SeqAt PySem.MeetsSeq PySem.MeetsSeq2 PySem.MeetsSeq3 L2
section
open PySem.AutoSeq1 (wpAny_loadPart')
theorem IG{L:Type}{xs:List L}{y:L}{U:List L}(h:xs.drop i=y::U):xs[i]? = some y/\xs.drop (i+1)=U/\i<xs.length:=by
 have Y:xs[i]? = some y:=by have:=Q_h (fun l=>l[0]?) h;simpa using this
 refine⟨Y,?_,(h_.mp Y).1⟩;have:=Q_h List.tail h;simpa using this
theorem OQ(l b:Addr)(f L:Array Value)(n F:Nat)(W Cl:Option Addr)(E X:Array (Option Value)):∀(r ms:List Int)(i:Nat),i<=f.size->i<=L.size->æ (f.toList.drop i) r->æ (L.toList.drop i) ms ->
  ë (Zf.«list.__eq__.loop» ⟨[.ref l,.ref b,â (i:Nat),â 0],[]⟩)
   (fun _ R s=>s.heap.get? l=some { cls:=.type "list",dict:=W,data:=.seq f n,slots:=E }/\s.heap.get? b=some { cls:=.type "list",dict:=Cl,data:=.seq L F,slots:=X } /\R (.ok (.ret (.bool (HT.bH r ms)))) s):=by
 intro r
 induction r with
|nil=>
  intro ms i T S p o;refine .of_wp fun j w A R s h=>?_;obtain⟨z,g,d,x,y⟩:=s;obtain⟨k,m,h⟩:=h;have G:=p.length;have v:=o.length;simp at G v;have C:f[(i:Int).toNat]? = none:=by rw[W_,Qc2];omega
  have B:HT.bH [] ms=decide (f.size<L.size):=by cases ms with
  |nil=>simp at v;rw[HT.e8];exact(Q_c (by omega)).symm
  |cons c ms=>simp at v;rw[HT.eG];exact(Q_d (by omega)).symm
  rw[B]at h
  wp_walk using Q_b k,Q_b m
  rw[C]
  wp_walk using Q_b k,Q_b m
  exact⟨_,rfl,h⟩
|cons a r K=>intro ms i T S p o;generalize IO:f.toList.drop i=di at p;cases p with
 |cons a t p=>
   obtain⟨P,O,N⟩:=IG IO;have U:f[(i:Int).toNat]? = some (.int a t):=by rw[W_];simpa using P
   cases ms with
  |nil=>
    refine .of_wp fun j w A R s h=>?_;obtain⟨z,g,d,x,y⟩:=s;obtain⟨k,m,h⟩:=h;have v:=o.length;simp at v;have C:L[(i:Int).toNat]? = none:=by rw[W_,Qc2];omega
    have B:HT.bH (a::r) []=decide (f.size<L.size):=by rw[HT.eI];exact(Q_c (by omega)).symm
    rw[B]at h
    wp_walk using Q_b k,Q_b m
    rw[C,U]
    wp_walk using Q_b k,Q_b m
    exact⟨_,rfl,h⟩
  |cons c ms=>generalize Id:L.toList.drop i=dj at o;cases o with
   |cons c u o=>
     obtain⟨J,I,H⟩:=IG Id;have Z:L[(i:Int).toNat]? = some (.int c u):=by rw[W_];simpa using J
     intro j w A R s h;obtain⟨z,g,d,x,y⟩:=s;obtain⟨k,m,h⟩:=h;rw[HT.gV]at h
     wp_walk using Q_b k,Q_b m
     rw[U,Z];obtain⟨e,Q,Y⟩:=HT.jI A.in1 ⟨z,g,d,x,y⟩ a t c u;refine Q_a (Q j w _ _ ?_);cases e with
    |true=>rw[Q_e (Y.mp rfl)]at h;rw[<-O]at p;rw[<-I]at o;have M:=K ms (i+1) (by simp at N;omega) (by simp at H;assumption) p o;have e:((i+1:Nat):Int)=(i:Int)+1:=rfl;rw[e]at M;exact(meets_again rfl (by decide+kernel) entry_eq_loop M) j w A R _ ⟨k,m,h⟩
    |false=>
      rw[Q_f (fun q=>Q_g (Y.mpr q) y_)]at h;have BT:=HT.gs A.in1 ⟨z,g,d,x,y⟩ a t c u j w
      wp_walk using Q_b k,Q_b m
      rw[U,Z]
      wp_walk using BT
      exact h
theorem Us(l b:Addr)(a L:Array Value)(n o:Nat)(r Y:Option Addr)(k U:Array (Option Value))(f ms:List Int)(x:æ a.toList f)(v:æ L.toList ms) :
  ë (Zf.«list.__lt__» ⟨[.ref l,.ref b],[]⟩)
   (fun _ R s=>s.heap.get? l=some { cls:=.type "list",dict:=r,data:=.seq a n,slots:=k }/\s.heap.get? b=some { cls:=.type "list",dict:=Y,data:=.seq L o,slots:=U } /\R (.ok (.ret (.bool (HT.bH f ms)))) s):=by
 intro c w A R s h;obtain⟨p,g,d,j,m⟩:=s;obtain⟨u,q,h⟩:=h;have f2:=AutoSeq1.sub_list_list;have M:=OQ l b a L n o r Y k U f ms 0 (YQ _) (YQ _) (by simpa using x) (by simpa using v);have Z:=(meets_again rfl (by decide+kernel) entry_eq_loop M) c w A R _ ⟨u,q,h⟩;have e:Zf.«list.__lt__» ⟨[.ref l,.ref b],[]⟩=(do
   let t <-isInstance (.ref b) (.type "list")
   if (! t)=true then ret Value.notImplemented else again (Code.builtin "list.__eq__.loop" ⟨[.ref l,.ref b,â 0,â 0],[]⟩)):=by first|rfl|kernel_rfl
 rw[e];have i:∀(Q:Bool->c_->Prop)(E:Value->c_->Prop),Q true ⟨p,g,d,j,m⟩->p_ (u_ c w) A.in1 (isInstance (.ref b) (.type "list")) Q E ⟨p,g,d,j,m⟩:=by
  intro Q E y
  wp_walk using Q_b q
  exact y
 exact Q_a (i _ _ Z)
end
end DL
namespace DL
open PySem PyProof.Rows L2
section
variable{prog:C_}{w:S_}{A:T_}{E:Value->c_->Prop}{s:c_}
def dw(h:Heap)(u:Value)(ns:List Int):Prop:=∃a its,u=.ref a/\h.IsList a its/\æ its.toList ns
theorem LZ(l:dw s.heap p Y)(hq:dw s.heap q ms)(k:A.units<Z9)(h:Q (HT.bH Y ms) s):p_ (u_ prog w) A (keyLt' oneType' p q) Q E s:=by obtain⟨a,Z,rfl,⟨⟨x,r,u,d⟩,U,n,g,f1⟩,j⟩:=l;obtain⟨b,L,rfl,⟨⟨v,o,t,c⟩,e,m,f,f2⟩,i⟩:=hq;subst n f1 m f2;refine Q_a (wpAny_cRoomFor k (Q_a (wpAny_callSpecialIfBound?_slot ⟨_,U,rfl⟩ Qdz ?_)));refine õ Qdz ⟨_,U,rfl⟩ PySem.F.entry_list_lt (PySem.F.args_list_lt_2 _ _) (Us a b Z L g f r o d c Y ms j i) ⟨U,e,?_⟩;exact e_ h
theorem dw.looks(x:dw h u U):W.Looks M h (typeOf u) (.type "list"):=by obtain⟨a,Y,rfl,⟨o,L,Z,b,f1⟩,_⟩:=x;rw[<-Z];exact(W.Looks.ld L).andThen .now
theorem Rb(h:dw s.heap u L)(hq:Q none s):p_ M A (firstOfTuple' u) Q E s:=by refine Q_a (W.Looks.here h.looks ?_);exact e_ hq
theorem yL{U L:Type}{f:U->Sem L}{g:U->L}:∀(vs:List U)(Q:List L->c_->Prop),(∀v∈vs,∀(Q:L->c_->Prop),Q (g v) s->p_ M A (f v) Q E s)->Q (vs.map g) s->p_ M A (List.mapM f vs) Q E s
|[],Q,_,h=>by exact e_ h
|v::vs,Q,Y,h=>by rw[List.mapM_cons];refine Q_a (Y v m_ _ (Q_a (yL vs _ (fun x Z=>Y x (k_ _ Z)) (e_ ?_))));exact h
theorem PQ(h:Paired (fun u Y=>dw s.heap u Y) vs Z)(b:0<vs.length)(hq:Q oneType' s):p_ M A (keyKind' vs.toArray) Q E s:=by
 have U:∀v∈vs,∃Y,dw s.heap v Y:=by
  intro v L;obtain⟨i,l⟩:=QdA L;clear b hq
  induction h generalizing i with
 |nil=>cases L
 |cons x t c=>
   rcases s_.mp L with rfl|z
   .exact⟨_,x⟩
   .obtain⟨j,hj⟩:=QdA z;exact c z j hj
 rw[keyKind'_eq,Qer];simp only[bind_map_left];refine Q_a (yL (g:=fun _=>none) vs _ (fun v L Q a=>Rb (U v L).choose_spec a) ?_);cases vs with
|nil=>simp at b
|cons v vs=>
  have k:((Zd (fun _=>(none:Option Value)) (v::vs)).toArray.all fun x=>x.isSome)=false:=by simp
  have f:(((Zd (fun _=>(none:Option Value)) (v::vs)).toArray)[0]?.bind id).isSome=false:=rfl;rw[Q_f (by rw[k];exact y_),Q_f (by rw[f];exact y_),oneTypeOnly'_eq,Qer];simp only[bind_map_left,bind_assoc];refine Q_a (yL (g:=fun _=>Value.type "list") (v::vs) _ (fun v L Q a=>W.Looks.here (U v L).choose_spec.looks a) ?_);have e:((Zd (fun _=>Value.type "list") (v::vs)).toArray)[0]? = some (Value.type "list"):=rfl;have d:((Zd (fun _=>Value.type "list") (v::vs)).toArray.all fun x=>x==Value.type "list")=true:=by simp
  rw[e];simp only[d,Q_o,pure_bind];exact e_ hq
end
end DL
namespace DL
open PySem PySem.Spec PyProof.Rows L2
def qQ(K:W.Frag)(H:Hp)(x:V)(k:List Int):Prop:=∃b,x=.ref b/\bp K H b (k.map V.int)
def oE{α:Type}(d:α)(ys:List α)(kss:List (List Int)):List α:=(kd ys.length fun i j=>HT.bH (kss.getD i []) (kss.getD j [])).map fun i=>ys.getD i d
variable{X:Cx}{pz:List (Addr×Obj)}{σ:L2.St}{H:Hp}{s:c_}
theorem dw.stay(f:h.Ns L Z)(k:∀b o,b≠L->h.get? b=some o->h'.get? b=some o)(x:dw h p Y):dw h' p Y:=by
 obtain⟨a,U,rfl,⟨o,j,i,n,g⟩,c⟩:=x;refine⟨a,U,rfl,⟨o,k _ _ ?_ j,i,n,g⟩,c⟩;obtain⟨l,m,q,e,d,_⟩:=f
 grind
theorem Pj(I:Inv X pz σ H s)(h:qQ X.K H x k)(r:L2.av x u):dw s.heap u k:=by obtain⟨b,rfl,Z⟩:=h;cases r;obtain⟨L,U,Y,_⟩:=I.list Z;exact⟨b,L.toArray,rfl,Y.isList,by simpa using pM U⟩
theorem Iq(I:Inv X pz σ H s):∀{U:List V}{L:List (List Int)}{Y:List Value},Paired (qQ X.K H) U L->ar U Y->Paired (fun u ks=>dw s.heap u ks) Y L
|_,_,_,.nil,.nil=>.nil
|_,_,_,.cons h t,.cons r q=>.cons (Pj I h r) (Iq I t q)
theorem Uo(hr:Room k X.A):dJ X (.builtin "sorted") (fun xs H Q=>∃p f d,xs=[.ref p]/\bp X.K H p f/\Paired (qQ X.K H) f d/\f.length<64/\∀l,H l=none->Q (.ref l) (aO H l (.lst (oE .non f d)))):=by
 intro pz s σ H xs us Q I r h;obtain⟨p,f,d,rfl,E,P,Id,q⟩:=h;obtain⟨u,rfl,rx⟩:=bA r;cases rx;obtain⟨its,y,N,hz⟩:=I.list E;have hl:=y.length;have IO:=Paired.length P;by_cases v:its.length<2
 .refine UG N.isList v fun J c D O G ho=>?_;have hs:s.heap.get? D=none:=Ś G;refine⟨.ref D,_,Inv.laidN I hs (YS (B_ I.lt G)) (fun b o _ e=>O b o e) (fun m k=>by obtain⟨o,es,ep,e,z⟩:=k;exact ⟨o,es,ep,O _ _ e,z⟩) ho y (by omega) s.toks,rfl,?_⟩;have e:oE V.non f d=f:=by unfold oE kd;rw[Q_e (by omega)];refine š (by simp) fun i a b=>?_;simp[G_,b]
  have:=q D (I.hok.fresh G);rw[e]at this;exact this
 .obtain⟨mF,F⟩:=I.fr;have BT:=Iq I P y;refine W.kat_sorted F (HQ (g:=X.base) (h:=s.heap) (L:=X.env.locals)) N.isList (by omega) (by omega) fun D e1 J F' M w=>?_;have R:s.heap.get? D=none:=by cases z:s.heap.get? D with
  |none=>rfl
  |some o=>have zn:=(M _ (m_)).2;exact Q_g (w (D,o) (AM zn.1 zn.2 z)) (YY _)
  have U:∀{v:Heap}{t:Obj},Fr X.base X.env.locals v mF->News X.base X.env.locals v ((D,t)::oZ X.base s.heap X.env.locals)->∀b o,b≠X.env.locals->s.heap.get? b=some o->v.get? b=some o:=fun{v t} F2 N2 b o hb e=>by cases z:X.base.get? b with
  |some o'=>have:=I.bk b o' z;rw[e]at this;cases this;exact F2.keep b o z
  |none=>exact(N2 (b,o) (k_ _ (AM hb z e))).1
  have k1:=U F' M;have Y:Paired (fun u ks=>dw J u ks) its d:=Paired.mono (fun _ _ x=>x.stay F.ns k1) BT;refine PQ Y (by omega) ?_;have hn:0<its.length:=by omega
  refine RS (n:=its.length) (c:=fun i j=>HT.bH (d.getD i []) (d.getD j [])) (fun i j C B hj hC=>?_) (Iw hn) ?_
  .have gi:∀i,i<its.length->dw J (its.getD i Value.none) (d.getD i []):=fun i B=>by
    have Z:i<d.length:=by omega
    obtain⟨a,ha,hx⟩:=Paired.get Y (g_ Z);rw[G_,ha,G_,g_ Z];exact hx
   exact LZ (gi i B) (gi j hj) (by have:=hr.un;show X.A.units+1+1<Z9;omega) hC
  .refine W.KasFin.intro F' M (.head fun q E z=>?_) fun h3 c T S=>?_
   .have:=w q E;rw[z]at this;exact YY _ this
   .have t:=(S _ m_)
    have Cl:∀i∈kd f.length (fun i j=>HT.bH (d.getD i []) (d.getD j [])),i<f.length:=fun i B=>Jk B;have e0:(oR (fun i j=>HT.bH (d.getD i []) (d.getD j [])) (W.kas_sort its.length)).toList=kd f.length (fun i j=>HT.bH (d.getD i []) (d.getD j [])):=by unfold kd;rw[Q_f (by omega),hl]
    rw[e0]at t;refine⟨.ref D,_,Inv.laidN (t':=_) (its:=(kd f.length fun i j=>HT.bH (d.getD i []) (d.getD j [])).map fun i=>its.getD i Value.none) I R t.2.1 (U T S) (fun m hm=>by rw[GT hm F.ns];exact T.ns) t.1 (Jo y _ Cl) ?_,rfl,q D ?_⟩
    .have:=(JI f.length fun i j=>HT.bH (d.getD i []) (d.getD j [])).length_eq;rw[b_,this,Yv];omega
    .cases z:H D with
    |none=>rfl
    |some u=>exact Q_g R (df.isS (I.hok D u z))
def se:D->Option (List Int)
|.lst ds=>cP ds
|_=>none
def ox:List D->Option (List (List Int))
|[]=>some []
|d::ds=>(se d).bind fun k=>(ox ds).map (k::·)
def FO:List D->Option D
|[.lst ds]=>(ox ds).bind fun kss=>if ds.length<64 then some (.lst (oE .non ds kss))else none
|_=>none
section
variable{K:W.Frag}{G:GH}
theorem LY(L:bi K G H)(r:RG K G v d)(e:se d=some k):qQ K H v k:=by cases d with
|lst Z=>obtain⟨a,Y,rfl,s,U⟩:=(RG.rb r).lst L;have:=ma L U e;subst this;exact⟨a,rfl,s⟩
|_=>cases e
theorem GO(U:bi K G H):∀{ds:List D}{xs:List V}{ks:List (List Int)},bJ K G xs ds->ox ds=some ks->Paired (qQ K H) xs ks
|[],_,_,.nil,e=>by cases e;exact .nil
|d::ds,_,ks,.cons r t,e=>by have L:(se d).bind _=some ks:=e;cases Z:se d with
 |none=>grind
 |some k=>rw[Z]at L;cases Y:ox ds with
  |none=>grind
  |some a=>rw[Y]at L;cases L;exact .cons (LY U r Z) (GO U t Y)
end
variable{g:GE}{m:List Md}{a:Expr}{fl:am->Res (List D)}{pos p:Pos}
section
variable{k:Nat}
theorem RI(o:Room k X.A)(x:Gl X "sorted")(u:X.mg "sorted" = none)(y:fF X g m [a] fl)(hs:f_ [a] X.env=(false,eval a X.env)::f_ [] X.env:=by rfl):SO X g m (.Call (.Name "sorted" p) [a] [] pos) (fC fl FO):=by
 refine rA ?_ (i7 (Uo o) x u (by first|grind|rfl) y (by decide) (by decide) hs rfl);intro G H z B d Q Y j e q;unfold FO at e;split at e
 .rename_i zs;cases c:ox zs with
 |none=>rw[c]at e;cases e
 |some Z=>
   rw[c]at e;have f:(if zs.length<64 then some _ else none)=some d:=e;by_cases U:zs.length<64
   .rw[Q_e U]at f;cases f;cases j with
   |cons n t=>cases t;obtain⟨b,h,rfl,s,r⟩:=n.lst Y;have v:=Paired.length r;refine⟨b,h,Z,rfl,s,GO Y r c,by omega,fun l L=>q l G _ (Grow.new Y L _) L ⟨Y.isN L,.lst bV ?_⟩⟩;unfold oE;rw[v];exact HW r _ fun i w=>Jk w
   grind
 .cases e
end
theorem Inv.keptN(I:Inv X pz σ H s)(k:∀b o,b≠X.env.locals->s.heap.get? b=some o->h'.get? b=some o)(U:∀m,s.heap.Ns X.env.locals m->h'.Ns X.env.locals m)(t':Nat):Inv X pz σ H { s with heap:=h',toks:=t' }:=by
 have L:∀b u,H b=some u->b≠X.env.locals:=fun b u e z=>by rw[z,I.free]at e;cases e
 refine I.step (g':=s.gens) (d':=s.drawn) (ch:=[]) (fun b a=>Q_g a (by simp)) (fun b Z d _ _ e _=>k b Z d e) (fun b Z d _ _ e _=>⟨Z.slots,k b Z d e⟩) (fun b Z _ e n=>n)
  (fun b Z _ e=>?_) (fun b f e=>e) (fun b Z u e=>e) (fun b i e=>⟨#[],by rw[e];simp⟩) U (fun b u e=>?_) I.bare
 .by_cases a:b=X.env.locals
  .subst a;obtain⟨m,g,_⟩:=I.loc;obtain⟨o,_,_,Y,_⟩:=U m g;exact⟨o,Y⟩
  .exact⟨Z,k b Z a e⟩
 .refine(I.hok b u e).stay (fun c v h q=>k c v ?_ q) (fun c q=>q) fun c f q=>q;rcases h with z|z
  .rw[z];exact L b u e
  .exact L c _ z
theorem Inv.keptF(I:Inv X pz σ H s)(F:Fr X.base X.env.locals s.heap L)(U:Fr X.base X.env.locals h' L)(N':News X.base X.env.locals h' (oZ X.base s.heap X.env.locals))(t':Nat):Inv X pz σ H { s with heap:=h',toks:=t' }:=by refine Inv.keptN I (fun b o a e=>?_) (fun m Z=>by rw[GT Z F.ns];exact U.ns) t';cases z:X.base.get? b with
|some Y=>have:=I.bk b Y z;rw[e]at this;cases this;exact U.keep b o z
|none=>exact(N' _ (AM a z e)).1
section
variable{e b:Expr}{es:List Expr}{fa fb:FE}
def EL(K:W.Frag):R2:=fun x y H Q=>∃a b ys,x=.ref a/\y=.ref b/\cg K H a []/\cg K H b ys/\Q (.ref b) H
theorem OY:br X (ZY .Add) (EL X.K):=by
 intro G s C H x y v u Q I j i h;obtain⟨a,b,E,rfl,rfl,z,w,q⟩:=h;cases j;cases i;obtain⟨p,k,m,_⟩:=I.tuple z;obtain⟨M,F,l,_⟩:=I.tuple w;cases k;obtain⟨⟨B,A,f,g⟩,e,t,n,r⟩:=id m;obtain⟨⟨J,Y,Z,L⟩,c,U,o,d⟩:=id l;subst t r U d;exact ĺ ⟨_,e,rfl⟩ ⟨_,c,rfl⟩ ŭ Ź Qbm Qbf (Qa3 _ _)
  (tuple_addW0 a b _ _ n o A Y g L rfl) ⟨e,c,⟨.ref b,H,I,rfl,q⟩⟩
def addE:D->D->Option D
|.tup [],.tup b=>some (.tup b)
|a,b=>addA a b
theorem N7{K:W.Frag}:dU K (fun x y H Q=>EL K x y H Q\/((∃i j,x=.int i/\y=.int j/\Q (.int (i+j)) H)\/(∃i j,x=.str i/\y=.str j/\i.length+j.length<=sizeLine/\Q (.str (i++j)) H)\/rK K x y H Q\/vN K x y H Q)) addE:=by
 intro G H g f l k d Q Y U L e q;unfold addE at e;split at e
 .cases e;rcases U with U|⟨m,_,Z⟩
  .rcases L with L|⟨m,_,Z⟩
   .obtain⟨a,xs,rfl,s1,t1⟩:=U.tup Y;obtain⟨b,c,rfl,h,n⟩:=L.tup Y;cases t1;exact .inl ⟨a,b,c,rfl,rfl,s1,h,q _ G H (Grow.refl Y) L⟩
   .cases Z.ob
  .cases Z.ob
 .exact .inr (Go G H g f l k d Q Y U L e q)
theorem ls(U:SB X g m a fa)(L:SB X g m b fb):SE X g m (.BinOp a .Add b pos) (f2 fa fb addE):=jQ (br.or OY (br.or Ff (br.or JC (br.or yU Gz)))) N7 U L
end
end DL
namespace DL
open PySem PyProof.Rows L2
section
open PySem.AutoSeq1 (wpAny_loadPart')
theorem UY(l b:Addr)(a L:Array Value)(n f:Nat)(Z:Option Addr)(Y:Array (Option Value))(hz:a.size+L.size<=sizeLine) :
  ë (Zf.«list.extend» ⟨[.ref l,.ref b],[]⟩)
   (fun _ R s=>s.heap.get? l=some { cls:=.type "list",data:=.seq a n }/\s.heap.get? b=some { cls:=.type "list",dict:=Z,data:=.seq L f,slots:=Y } /\R (.ok (.ret .none)) { s with heap:=s.heap.update l (Y6 fun x=>x++L) }):=by
 refine .of_wp fun c w A R s h=>?_;obtain⟨m,g,d,j,k⟩:=s;obtain⟨e,i,h⟩:=h
 wp_walk using Q_b e,Q_b i
 have U:¬ (! a.isEmpty&&ZO (a.size+L.size))=true:=by rw[Q6 hz,Qfe];exact y_
 rw[Q_f U];refine Q_a (ŏ e rfl (e_ ⟨_,rfl,h⟩) (by omega) (by rw[Array.size_append];omega))
def HV(K:W.Frag):V->List V->Hp->VK->Prop:=fun x vs H Q=>∃l b xs zs,x=.ref l/\vs=[.ref b]/\H l=some (.lst xs)/\bp K H b zs/\xs.length+zs.length<=sizeLine/\Q .non (aO H l (.lst (xs++zs)))
section
variable{X:Cx}
theorem Te:DV X "list.extend" (HV X.K):=by
 intro B s m H x y v A Q I c d h;obtain⟨l,b,t,o,rfl,rfl,Z,j,C,q⟩:=h;cases c;obtain⟨u,rfl,f⟩:=d.one;cases f;obtain⟨z,U,n,r,E,e⟩:=I.lstM Z;obtain⟨L,Y,⟨⟨J,G,w,a⟩,g,k,f1,f2,f3⟩,p⟩:=I.list j;subst f1 f2 f3;have i:=Y.length;refine õ F.slot_list_extend ⟨_,e,rfl⟩ F.entry_list_extend (F.args_list_extend_2 _ _)
  (UY l b U.toArray L.toArray n g _ a (by grind)) ⟨e,k,?_⟩
 refine⟨.non,_,I.lset Z e (by simp) (r.append Y) ?_,rfl,q⟩;rw[D_];omega
end
end
end DL
namespace DL
open PySem PyProof.Rows PySem.W
section
variable{n:Nat}{c:Nat->Nat->Bool}(as:∀i j,c i j=true->c j i=false)(tr:∀i j k,c j i=false->c k j=false->c k i=false)
include tr in
include as tr in
include tr in
include as tr in
include as tr in
include as tr in
include as tr in
include as tr in
include as tr in
include as tr in
include as tr in
include as tr in
end
end DL
section
namespace DL
end DL
end
namespace DL
open PySem PySem.Spec PyProof.Rows L2
def extD:D->List D->Option D
|.lst ds,[.lst es]=>if ds.length+es.length<=sizeLine then some (.lst (ds++es))else none
|_,_=>none
theorem Li{K:W.Frag}:jN K (HV K) extD:=by
 intro G H a d h k l Q f c Y e q;unfold extD at e;split at e
 .split at e
  .cases e;cases c.ob with
  |lst r s=>cases Y with
   |cons Z t=>cases t;obtain⟨b,g,rfl,U,L⟩:=Z.lst f;have j:=Paired.length s;have i:=Paired.length L;exact⟨a,b,_,_,rfl,rfl,r,U,by omega,q _ (.lst bV (Paired.app s L))⟩
  .cases e
 .cases e
variable{X:Cx}
section
variable{pz:List (Addr×Obj)}{σ:L2.St}{H:Hp}{s:c_}
theorem Rj(bs:List Bool):((d_ bs.length).all fun i=>bs.getD i true)=bs.all id:=by
 rw[YG,Yy,Yy];constructor
 .intro h b hb;obtain⟨i,L,rfl⟩:=P_ hb;have:=h i (n_.mpr L);simp_all
 .intro h i L;have L:=n_.mp L;have:=h bs[i] (Zv _);simp_all
theorem Rk(bs:List Bool):((d_ bs.length).any fun i=>bs.getD i true)=bs.any id:=by
 rw[YG,ę,ę];constructor
 .rintro⟨i,hi,h⟩
  have hi:=n_.mp hi;exact⟨bs[i],Zv _,by simp_all⟩
 .rintro⟨b,hb,h⟩
  obtain⟨i,hi,rfl⟩:=P_ hb;exact⟨i,n_.mpr hi,by simp_all⟩
theorem JL(O:X.calm=true)(I:Inv X pz σ H s){bs:List Bool}(hq:bp X.K H p (bs.map V.bl))(F:A.handled=none)(h:∀I fp wr n P St g q a,q=Value.ref I->Walks X.prog X.w A I fp wr n P St->St 0 a.heap->TruthOf X.prog X.w A P g->n=bs.length->(∀i,g i=bs.getD i true) ->(∀(h':Heap)(d:Nat),(∀(b:Addr)(o:Obj),¬b∈wr->a.heap.get? b=some o->h'.get? b=some o)->Inv X pz σ H { heap:=h',gens:=a.gens,drawn:=a.drawn,toks:=d,os:=a.os })->Q q a):p_ (u_ X.prog X.w) A (ö (.ref p)) Q E s:=by
 obtain⟨c,j,y,N⟩:=I.list hq;have C:=j.length;rw[b_]at C;refine QbL y.isList fun a M r B f=>?_;refine h s.heap.objs.size [s.heap.objs.size,p] [s.heap.objs.size] c.toArray.size _ _ _ _ a rfl (ŗ F _ p f c.toArray) r ?_ (by simp_all) (fun i=>rfl) fun h' d k=>?_
 .intro i v s' Q' E' hv hq';have L:=by simpa using hv
  have r:i<c.length:=(h_.mp L).1;have Z:i<(bs.map V.bl).length:=by simp_all
  obtain⟨u,x,t⟩:=j.get (i:=i) (g_ Z);rw[L]at x;cases x;rw[Ě]at t;have Y:=t;subst Y;have e:bs.getD i true=bs[i]:=by simp_all
  have U:Q' (bs.getD i true) s':=hq';rw[e]at U;exact e_ U
 .subst M;have l:∀b o,s.heap.get? b=some o->¬ b∈[s.heap.objs.size]:=fun b o e z=>by have:=YA.mp z;subst this;exact Q_g (o_ e) (YY _)
  exact Inv.keptN I (fun b o _ e=>k b o (l b o e) (a_ _ e)) (fun m w=>by obtain⟨o,G,J,e,z⟩:=w;exact ⟨o,G,J,k _ _ (l _ _ e) (a_ _ e),z⟩) d
theorem Qb(U:X.calm=true):dJ X (.builtin "all") (fun xs H Q=>∃(p:Addr)(bs:List Bool),xs=[.ref p]/\bp X.K H p (bs.map V.bl)/\Q (.bl (bs.all id)) H):=by intro w s t H xs v Q I r h;obtain⟨p,bs,rfl,b,q⟩:=h;obtain⟨u,rfl,a⟩:=bA r;cases a;refine call_all_walk (JL U I b (show X.A.in1.handled=none from I.ok.hd U) fun J d wr n P St Y x L o m l j i g f=>⟨J,d,wr,n,P,St,Y,o,m,l,j,fun c Z k=>?_⟩);have e:=funext g;rw[i,e,Rj];exact⟨.bl _,H,f c Z k,rfl,q⟩
theorem Qc(U:X.calm=true):dJ X (.builtin "any") (fun xs H Q=>∃(p:Addr)(bs:List Bool),xs=[.ref p]/\bp X.K H p (bs.map V.bl)/\Q (.bl (bs.any id)) H):=by intro w s t H xs v Q I r h;obtain⟨p,bs,rfl,b,q⟩:=h;obtain⟨u,rfl,a⟩:=bA r;cases a;refine call_any_walk (JL U I b (show X.A.in1.handled=none from I.ok.hd U) fun J d wr n P St Y x L o m l j i g f=>⟨J,d,wr,n,P,St,Y,o,m,l,j,fun c Z k=>?_⟩);have e:=funext g;rw[i,e,Rk];exact⟨.bl _,H,f c Z k,rfl,q⟩
end
def iT:List D->Option (List Bool)
|[]=>some []
|.bl b::ds=>(iT ds).map (b::·)
|_=>none
theorem Gp{K:W.Frag}(Z:bi K G H)(h:bJ K G xs ds)(e:iT ds=some bs):xs=bs.map V.bl:=by induction h generalizing bs with
|nil=>cases e;rfl
|@cons x d xs ds r t Y=>cases d with
 |bl b=>have U:(iT ds).map _=some bs:=e;cases L:iT ds with
  |none=>grind
  |some a=>rw[L]at U;cases U;rw[Y L,Yx,(RG.rb r).bl Z]
 |_=>cases e
def allD:List D->Option D
|[.lst ds]=>(iT ds).map fun bs=>.bl (bs.all id)
|_=>none
def anyD:List D->Option D
|[.lst ds]=>(iT ds).map fun bs=>.bl (bs.any id)
|_=>none
theorem K8{K:W.Frag}:kZ K (fun xs H Q=>∃(p:Addr)(bs:List Bool),xs=[.ref p]/\bp K H p (bs.map V.bl)/\Q (.bl (bs.all id)) H) allD:=by
 intro G H c f d Q L Y e q;unfold allD at e;split at e
 .rename_i zs;cases U:iT zs with
 |none=>rw[U]at e;cases e
 |some bs=>rw[U]at e;cases e;cases Y with
  |cons Z t=>cases t;obtain⟨b,xs,rfl,s,r⟩:=Z.lst L;have a:=Gp L r U;subst a;exact⟨b,bs,rfl,s,q _ G H (Grow.refl L) (.scl (.bl _))⟩
 .cases e
theorem K9{K:W.Frag}:kZ K (fun xs H Q=>∃(p:Addr)(bs:List Bool),xs=[.ref p]/\bp K H p (bs.map V.bl)/\Q (.bl (bs.any id)) H) anyD:=by
 intro G H c f d Q L Y e q;unfold anyD at e;split at e
 .rename_i zs;cases U:iT zs with
 |none=>rw[U]at e;cases e
 |some bs=>rw[U]at e;cases e;cases Y with
  |cons Z t=>cases t;obtain⟨b,xs,rfl,s,r⟩:=Z.lst L;have a:=Gp L r U;subst a;exact⟨b,bs,rfl,s,q _ G H (Grow.refl L) (.scl (.bl _))⟩
 .cases e
section
variable{g:GE}{m:List Md}{e:Expr}{es:List Expr}{fl:am->Res (List D)}{pos p:Pos}
theorem lS(a:X.calm=true)(Y:Gl X "all")(U:X.mg "all" = none)(b:fF X g m (e::es) fl)(Z:f_ (e::es) X.env=(false,eval e X.env)::f_ es X.env:=by rfl)(L:(backTo pos (f_ es X.env)).any (·.1)=false:=by rfl):SE X g m (.Call (.Name "all" p) (e::es) [] pos) (fC fl allD):=eU K8 (i7 (Qb a) Y U PyProof.Rows.boot_all b (by decide) (rfl) Z L)
theorem LX(a:X.calm=true)(Y:Gl X "any")(U:X.mg "any" = none)(b:fF X g m (e::es) fl)(Z:f_ (e::es) X.env=(false,eval e X.env)::f_ es X.env:=by rfl)(L:(backTo pos (f_ es X.env)).any (·.1)=false:=by rfl):SE X g m (.Call (.Name "any" p) (e::es) [] pos) (fC fl anyD):=eU K9 (i7 (Qc a) Y U PyProof.Rows.boot_any b (by decide) (rfl) Z L)
end
def gU(ks:List Int):Int:=ks.getD (ZJ (fun i j=>decide (ks.getD i 0<ks.getD j 0)) (ks.length-1)) 0
theorem Al(f:Nat->Int):∀k,ZJ (fun i j=>decide (f i<f j)) k<=k/\∀i,i<=k->f (ZJ (fun i j=>decide (f i<f j)) k)<=f i
|0=>⟨q_ _,fun i L=>by
   have:i=0:=by omega
   subst this;exact Int.le_refl _⟩
|k+1=>by
  obtain⟨Y,U⟩:=Al f k;rw[QfG]
  grind
theorem Q4(h:ks≠[]):gU ks∈ks:=by
 have U:=Zm.mpr h;have Y:=(Al (fun i=>ks.getD i 0) (ks.length-1)).1;unfold gU;have L:ZJ (fun i j=>decide (ks.getD i 0<ks.getD j 0)) (ks.length-1)<ks.length:=by omega
 rw[G_,g_ L];exact Zv _
theorem OU(h:x∈ks):gU ks<=x:=by
 obtain⟨i,L,rfl⟩:=P_ h;have:=(Al (fun i=>ks.getD i 0) (ks.length-1)).2 i (by omega);have e:ks.getD i 0=ks[i]:=by simp[G_,L]
 simp only[e]at this;exact this
theorem R7(h:s.heap.IsTuple l its)(k:∀L:c_,L={ s with heap:=s.heap.push { cls:=Value.type "tuple_iterator",data:=Data.fields #[Value.ref l,Value.int 0 0] } }->L.heap.IsTupleIter s.heap.objs.size l 0/\L.heap.IsTuple l its->(∀b:Nat,b∈[s.heap.objs.size,l]->b<L.heap.objs.size)->l≠s.heap.objs.size->Q (Value.ref s.heap.objs.size) L):p_ (u_ prog w) A (ö (Value.ref l)) Q E s:=by
 have U:l<s.heap.objs.size:=by obtain⟨o,e,_⟩:=id h;exact o_ e
 refine ZK h (k _ rfl ⟨⟨_,i_ _ rfl,rfl,rfl⟩,h.push _⟩ ?_ (z_ U));intro b Y;have Z:∀a:Obj,(s.heap.push a).objs.size=s.heap.objs.size+1:=fun _=>H_ ..;rw[Z];simp only[s_,L_,Q_m]at Y;rcases Y with rfl|rfl
 .exact Zi _
 .exact Y2 U
abbrev vG(K:W.Frag)(cmp:Int->Int->Bool):List V->Hp->VK->Prop:=fun xs H Q=>∃(p:Addr)(ks:List Int),xs=[.ref p]/\(bp K H p (ks.map V.int)\/cg K H p (ks.map V.int))/\ks≠[]/\Q (.int (ks.getD (ZJ (fun i j=>cmp (ks.getD i 0) (ks.getD j 0)) (ks.length-1)) 0)) H
theorem Ro(hc:X.calm=true)(y:Int->Int->Bool)(walk:∀{A:T_}{E:Value->c_->Prop}{s:c_}{x:Value}{Q:Value->c_->Prop},p_ (u_ X.prog X.w) A.in1 (ö x) (fun it f=>∃I fp wr G n P St O,it=Value.ref I/\WalksS X.prog X.w A.in1 I fp wr G n P St/\St 0 f/\(∀b:Addr,b∈fp->b<f.heap.objs.size)/\0<n/\CmpOf X.prog X.w A.in1 T P O/\∀(v:Value)(k:c_),P (ZJ O (n-1)) v->Moved wr G f k->Q v k) E s->p_ (u_ X.prog X.w) A (call (Value.builtin b) [x]) Q E s)(Y:∀(A:T_)(s:c_)(a:Int)(t:Tok)(c:Int)(u:Tok)(E Q:Value->c_->Prop),Q (.bool (y a c)) s->p_ (u_ X.prog X.w) A (Ļ T (.int a t) (.int c u)) Q E s):dJ X (.builtin b) (vG X.K y):=by
 intro pz s σ H xs us Q I r h;obtain⟨p,l,rfl,N,hne,q⟩:=h;obtain⟨u,rfl,rx⟩:=bA r;cases rx;have hA:X.A.in1.handled=none:=I.ok.hd hc;have hp:=Zm.mpr hne;have fin:∀(d:List Value)(C:Obj)(St:Nat->Heap->Prop),ar (l.map V.int) d->Walks X.prog X.w X.A.in1 s.heap.objs.size [s.heap.objs.size,p] [s.heap.objs.size] d.toArray.size (fun i v=>d.toArray[i]? = some v) St->St 0 (s.heap.push C)->(∀b:Nat,b∈[s.heap.objs.size,p]->b<(s.heap.push C).objs.size) ->∃I fp wr G n P St O,Value.ref s.heap.objs.size=Value.ref I/\WalksS X.prog X.w X.A.in1 I fp wr G n P St/\St 0 { s with heap:=s.heap.push C }/\(∀b:Addr,b∈fp->b<(s.heap.push C).objs.size)/\0<n/\CmpOf X.prog X.w X.A.in1 T P O/\∀(v:Value)(k:c_),P (ZJ O (n-1)) v->Moved wr G { s with heap:=s.heap.push C } k->EP X pz σ Q v k:=by
  intro d C St B W F g;have hl:=B.length;rw[b_]at hl;have gi:∀i v,d[i]? = some v->∃t,v=Value.int (l.getD i 0) t:=fun i v J=>by
   have F:i<d.length:=(h_.mp J).1;have Z:i<(l.map V.int).length:=by rw[b_];omega
   obtain⟨u,R,h3⟩:=B.get (i:=i) (x:=(l.map V.int)[i]) (g_ Z);rw[J]at R;cases R;rw[Ě]at h3;have U:i<l.length:=by omega
   rw[G_,g_ U];exact h3
  refine⟨s.heap.objs.size,[s.heap.objs.size,p],[s.heap.objs.size],_,d.toArray.size,_,_,fun i j=>y (l.getD i 0) (l.getD j 0),rfl,W.toS,F,g,by rw[A_];omega,?_,fun v k J M=>?_⟩
  .intro i j vi vj k Q' E' R h2 hq';obtain⟨t1,rfl⟩:=gi i vi (by simpa using R);obtain⟨t2,rfl⟩:=gi j vj (by simpa using h2);exact Y _ k _ t1 _ t2 E' Q' hq'
  .have hsz:d.toArray.size-1=l.length-1:=by rw[A_];omega
   rw[hsz]at J;obtain⟨t,rfl⟩:=gi _ v (by simpa using J);have ne:∀b o,s.heap.get? b=some o->¬ b∈[s.heap.objs.size]:=fun b o e z=>by have:=YA.mp z;subst this;exact Q_g (o_ e) (YY _)
   obtain⟨h',g',d',tk,S⟩:=k;have e1:g'=s.gens:=M.gens;have e3:d'=s.drawn:=M.drawn;have e4:S=s.os:=M.os;subst e1 e3 e4;exact⟨.int _,H,Inv.keptN I (fun b o _ e=>M.heap b o (ne b o e) (a_ _ e)) (fun m a=>by obtain⟨o,es,ep,e,z⟩:=a;exact ⟨o,es,ep,M.heap _ _ (ne _ _ e) (a_ _ e),z⟩) tk,⟨_,rfl⟩,q⟩
 rcases N with N|N
 .obtain⟨d,B,pl,hz⟩:=I.list N;exact walk (QbL pl.isList fun f e2 F g L=>by subst e2;exact fin d _ _ B (ŗ hA _ p L d.toArray) F g)
 .obtain⟨d,B,pl,hz⟩:=I.tuple N;exact walk (R7 pl fun f e2 F g L=>by subst e2;exact fin d _ _ B (QfJ hA _ p L d.toArray) F g)
def vI(z:List Int->Int):List D->Option D
|[.lst (d::ds)]=>(cP (d::ds)).map fun ks=>.int (z ks)
|[.tup (d::ds)]=>(cP (d::ds)).map fun ks=>.int (z ks)
|_=>none
theorem P8{K:W.Frag}(hz:∀ks:List Int,ks.getD (ZJ (fun i j=>U (ks.getD i 0) (ks.getD j 0)) (ks.length-1)) 0=z ks):kZ K (vG K U) (vI z):=by
 intro G H m n d Q c h e q;have Y:∀(y:D)(a:List D)(v:V)(b:Addr)(L:List V),v=.ref b->(bp K H b L\/cg K H b L)->bJ K G L (y::a)->(cP (y::a)).map (fun ks=>D.int (z ks))=some d->vG K U [v] H Q:=fun y a v b L Z s r e=>by cases g:cP (y::a)with
 |none=>rw[g]at e;cases e
 |some ks=>
   rw[g]at e;cases e;have k:=Paired.length r;have l:=ma c r g;subst l;refine⟨b,ks,by rw[Z],s,?_,by rw[hz];exact q _ G H (Grow.refl c) (.scl (.int _))⟩
   rintro rfl
   simp at k
 unfold vI at e;split at e
 .cases h with
 |cons f t=>cases t;obtain⟨b,L,Z,s,r⟩:=f.lst c;exact Y _ _ _ b L Z (.inl s) r e
 .cases h with
 |cons f t=>cases t;obtain⟨b,L,Z,s,r⟩:=f.tup c;exact Y _ _ _ b L Z (.inr s) r e
 .cases e
end DL
namespace DL
open PySem PySem.Spec PyProof.Rows L2 PySem.W
section
variable{prog:C_}{w:S_}{A:T_}{R:ò->c_->Prop}{I:Addr}{fp wr:List Addr}{n:Nat}{P:Nat->Value->Prop}{St:Nat->Heap->Prop}
theorem OT(W:Walks prog w A.in1 I fp wr n P St)(l:Nat->Nat->Bool)(ST:CmpOf prog w A.in1 .Lt P l)(N:S∉fp)(hn:0<n)(B:List (Str×Value)):∀(k j:Nat)(s:c_)(a:Array Value)(c:Nat),j+k=n->St j s.heap->(j=0/\a = #[]\/0<j/\∃d,P (ZJ l (j-1)) d/\a = #[d,d]) ->s.heap.get? S=some { cls:=.type "list",dict:=none,data:=.seq a c,slots:=#[] } ->(∀v h' m,P (ZJ l (n-1)) v->(∀b o,b∉wr->b≠S->s.heap.get? b=some o->h'.get? b=some o)->R (.ok (.ret v)) { s with heap:=h',toks:=m }) ->Z1 (u_ prog w) A (.builtin "min.loop" ⟨[.ref I,.none,.ref S],B⟩) R s:=by
 have O:S∉wr:=fun h=>N (W.sub _ h);have H:(toString "min"++toString ".loop" : String) = "min.loop" := by decide
 have go:∀{j:Nat}{s:c_}{a:Array Value}{c:Nat},(∀(s:c_)(a:Array Value)(c:Nat),St (j+1) s.heap->(∃d,P (ZJ l j) d/\a = #[d,d])->s.heap.get? S=some { cls:=.type "list",dict:=none,data:=.seq a c,slots:=#[] } ->(∀v h' m,P (ZJ l (n-1)) v->(∀b o,b∉wr->b≠S->s.heap.get? b=some o->h'.get? b=some o)->R (.ok (.ret v)) { s with heap:=h',toks:=m })->Z1 (u_ prog w) A (.builtin "min.loop" ⟨[.ref I,.none,.ref S],B⟩) R s) ->∀{h':Heap}{m:Nat}{g:Array Value->Array Value}{d:Value},St (j+1) h'->(∀b o,b∉wr->s.heap.get? b=some o->h'.get? b=some o)->h'.get? S=some { cls:=.type "list",dict:=none,data:=.seq a c,slots:=#[] }->g a = #[d,d]->P (ZJ l j) d ->(∀v h' m,P (ZJ l (n-1)) v->(∀b o,b∉wr->b≠S->s.heap.get? b=some o->h'.get? b=some o)->R (.ok (.ret v)) { s with heap:=h',toks:=m }) ->Z1 (u_ prog w) A (.builtin "min.loop" ⟨[.ref I,.none,.ref S],B⟩) R { s with heap:=h'.update S (Y6 g),toks:=m }:=by intro j s a c C h' m g d U T t hg x u;have Tm:=YM (Y6 g) t rfl;refine C _ _ _ (W.frame _ _ _ U fun b p o e=>(U_ _ _ (fun h:S=b=>N (by rw[h];exact p))).trans e) ⟨d,x,hg⟩ Tm fun v J Z G E=>u v J Z G fun b o p L e=>E b o p L ((U_ _ _ (ZM L)).trans (T b o p e))
 intro k
 induction k with
|zero=>
  intro j s a c X U K t u;obtain⟨d,p,rfl⟩:=(K.resolve_left fun z=>by omega).2;have:j=n:=by omega
  subst this;refine Y5 F.entry_min_loop ?_;rw[Zw F.plain_min_loop _];show p_ _ A.in1 (seqItems? (.ref S) >>= _) _ _ s;refine Q_a (YC t rfl ?_);show p_ _ A.in1 (tryCatch (å (.ref I)) _ >>= _) _ _ s;refine Q_a (ŵ (W.done s _ _ U fun h' m f=>?_));refine Q_a ?_;refine Zr (f S _ O t) rfl (Q_a (Z7 (e_ ?_)));exact u d _ m p fun b o y L e=>(U_ _ _ (ZM L)).trans (f b o y e)
|succ k C=>
  intro j s a c X U K t u;have r:=fun s a c h1 (h2:∃d,P (ZJ l j) d/\a = #[d,d]) h3 h4=>C (j+1) s a c (by omega) h1 (.inr ⟨ĉ _,h2⟩) h3 h4;refine Y5 F.entry_min_loop ?_;rw[Zw F.plain_min_loop _];show p_ _ A.in1 (seqItems? (.ref S) >>= _) _ _ s;refine Q_a (YC t rfl ?_);show p_ _ A.in1 (tryCatch (å (.ref I)) _ >>= _) _ _ s;refine Q_a (ŵ (W.item j s _ _ (by omega) U fun v h' m x Y f=>?_));have q:=f S _ O t;rcases K with⟨rfl,rfl⟩|⟨h0,d,p,rfl⟩
  .show p_ _ A.in1 (updateSeq S (fun _=>#[v,v]) >>= _) _ _ _;refine Q_a ?_;refine Zr q rfl ?_;rw[H];exact e_ ⟨Zx F.plain_min_loop _,go (s:=s) r Y f q rfl x u⟩
  .obtain⟨i,rfl⟩:∃i,j=i+1:=⟨j-1,by omega⟩
   have p:P (ZJ l i) d:=p;show p_ _ A.in1 (tryCatch (ñ [v,v] (Ļ .Lt v d >>= _)) _ >>= _) _ _ _;refine Q_a (ŵ (YH (Q_a (ST (i+1) (ZJ l i) v d _ _ _ x p ?_))));refine Q_a (YH (Zy ?_));refine Q_a (Z7 (e_ ?_));cases M:l (i+1) (ZJ l i)with
  |true=>simp only[Q_o];refine Q_a ?_;refine Zr q rfl (Q_a (Z7 ?_));rw[H];exact e_ ⟨Zx F.plain_min_loop _,go (s:=s) r Y f q rfl (by simp only[ZJ,M,Q_o];exact x) u⟩
  |false=>simp only[YE,Q_n];refine Q_a (Z7 ?_);rw[H];refine e_ ⟨Zx F.plain_min_loop _,r _ _ _ Y ⟨d,by simp only[ZJ,M,YE,Q_n];exact p,rfl⟩ q fun Q J Z G E=>u Q J Z G fun b o y L e=>E b o y L (f b o y e)⟩
end
theorem Oa(a v:Value):argsOk "min" ⟨[a],[(YT "default",v)]⟩:=by kernel_rfl
section
variable{X:Cx}{g:GE}{m:List Md}{e:Expr}{t:TA}{fl:am->Res (List D)}{pos p p1 p2:Pos}{i:Int}{j:Nat}
theorem LO(hc:X.calm=true)(hg:Gl X "min")(g:X.mg "min" = none)(ha:PA X [e] t)(B:backTo pos (f_ [e] X.env)=(false,eval e X.env)::backTo pos (f_ [] X.env):=by rfl):PE X (.Call (.Name "min" p) [e] [⟨some "default",.Constant (.int i) j p1,p2⟩] pos) (lH (fun xs H Q=>∃(p:Addr)(ks:List Int),xs=[.ref p]/\bp X.K H p (ks.map V.int)/\ks≠[]/\Q (.int (gU ks)) H) t):=by
 intro T s E H Q I h;refine Y3 (iq I hg g PyProof.Rows.boot_min ?_ (by decide) (by decide));refine PyProof.Rows.callWith_kw (aW (ha pos T s E H _ I h) fun us O p=>?_) B (by rw[B];rfl) rfl rfl;obtain⟨vs,H1,I1,S,q1⟩:=p;obtain⟨b,ks,rfl,hq,f,q⟩:=q1;obtain⟨u,rfl,R⟩:=bA S;cases R;refine PyProof.Rows.kws_cons (Qd1 (PyProof.Rows.kws_nil ?_));have n:=I1.tok (O.toks+1);have hA:X.A.in1.handled=none:=n.ok.hd hc;have hp:=Zm.mpr f;obtain⟨Z,y,W,hz⟩:=n.list hq;have hl:=y.length;rw[b_]at hl;have m:∀i v,Z[i]? = some v->∃t,v=Value.int (ks.getD i 0) t:=fun i v a=>by
  have l:i<Z.length:=(h_.mp a).1;have Y:i<(ks.map V.int).length:=by simp_all
  obtain⟨u,c,C⟩:=y.get (i:=i) (x:=(ks.map V.int)[i]) (g_ Y);rw[a]at c;cases c;rw[Ě]at C;have L:i<ks.length:=by omega
  rw[G_,g_ L];exact C
 refine kmb_tree F.kind_min F.plain_min F.entry_min (Oa _ _) ?_;refine Q_a (Z6 (rfl) ?_);refine Q_a (e_ ?_);refine Q_a (QbL W.isList fun r e2 l k U=>?_);subst e2;refine Q_a (Zc ?_);refine e_ ⟨Zx F.plain_min_loop _,OT (ŗ hA _ b U Z.toArray) (fun i j=>decide (ks.getD i 0<ks.getD j 0)) (fun i j J G P Q' E' c h2 d=>?_) (fun g=>YY _ (k _ g)) (by simp_all) _ Z.toArray.size 0 _ #[] _ (Zs _) ?_ (.inl ⟨rfl,rfl⟩) (i_ _ rfl) fun v h' M a hk=>?_⟩
 .obtain⟨t1,rfl⟩:=m i J (by simpa using c);obtain⟨N,rfl⟩:=m j G (by simpa using h2);exact HT.gs _ P _ t1 _ N X.prog X.w E' Q' d
 .exact⟨l.1.at fun o e=>a_ _ e,l.2.push _⟩
 .have hsz:Z.toArray.size-1=ks.length-1:=by simp_all
  rw[hsz]at a;obtain⟨t,rfl⟩:=m _ v (by simpa using a);exact⟨.int _,H1,n.kept (t':=M) fun b o e=>hk b o (fun z=>by have:=YA.mp z;subst this;exact Q_g (o_ e) (YY _)) (z_ (by rw[H_];exact Y2 (o_ e))) (a_ _ (a_ _ e)),⟨_,rfl⟩,q⟩
def rM:List D->Option D
|[.lst (d::ds)]=>(cP (d::ds)).map fun ks=>.int (gU ks)
|_=>none
theorem MQ(l:X.calm=true)(h:Gl X "min")(c:X.mg "min" = none)(n:fF X g m [e] fl)(k:backTo pos (f_ [e] X.env)=(false,eval e X.env)::backTo pos (f_ [] X.env):=by rfl):SE X g m (.Call (.Name "min" p) [e] [⟨some "default",.Constant (.int i) j p1,p2⟩] pos) (fC fl rM):=by
 refine eU ?_ (LO l h c n k);intro G H v w d Q L Y e q;unfold rM at e;split at e
 .rename_i y ys;cases U:cP (y::ys)with
 |none=>rw[U]at e;cases e
 |some a=>rw[U]at e;cases e;cases Y with
  |cons Z t=>
   cases t;obtain⟨b,u,rfl,s,r⟩:=Z.lst L;have f:=Paired.length r;have o:=ma L r U;subst o;refine⟨b,a,rfl,s,?_,q _ G H (Grow.refl L) (.scl (.int _))⟩
   rintro rfl
   simp at f
 .cases e
end
end DL
namespace DL
open PySem PySem.Spec PyProof.Rows L2
def lc(h0 H:Hp):Prop:=∀a o,h0 a=some o->H a=some o
structure YieldsB(K:W.Frag)(h0:Hp)(J:It)(ds:List D)(G0:GH):Prop where
 go:∀G H (i:Nat),bI G0 G->bi K G H->lc h0 H->i<ds.length->J.go i H
 yld:∀G H (i:Nat) x H' d,bI G0 G->bi K G H->lc h0 H->J.yld i H x H'->ds[i]? = some d->∃G',Grow K G H G' H'/\RG K G' x d
 stop:∀G H,bI G0 G->bi K G H->lc h0 H->J.stop ds.length H
theorem Yields.toH{K:W.Frag}(y:Yields K J ds U):YieldsB K Z J ds U:=⟨fun G H i w L _ Y=>y.go G H i w L Y,fun G H i x a d w L _ q e=>y.yld G H i x a d w L q e,fun G H w L _=>y.stop G H w L⟩
def VW(X:Cx)(g:GE)(m:List Md)(f:FI):TI:=fun σ H R=>∃r G,SI X g m r G σ H/\fin (f r) (fun ds=>∀J G' H',Grow X.K G H G' H'->YieldsB X.K g.h0 J ds G'->R J H') (XW X σ G H)
def mO(X:Cx)(g:GE)(m:List Md)(tg iter:Expr)(f:FI):Prop:=PI X tg iter (VW X g m f)
def VY(X:Cx)(g:GE)(m:List Md)(f:FE):TE:=fun σ H Q=>∃r G,SI X g m r G σ H/\fin (f r) (fun d=>∀v G' H',Grow X.K G H G' H'->Bw X.K g.h0 G' H' v d->Q v H') (XW X σ G H)
def DT(X:Cx)(g:GE)(m:List Md)(e:Expr)(f:FE):Prop:=PE X e (VY X g m f)
variable{X:Cx}{g:GE}{m:List Md}{pos p pos2:Pos}{elts:List Expr}{kk:Nat}
section
variable{m' mb:List Md}{tg e a iter:Expr}{f:FE}{ro:Bool}{sts:List Stmt}{s1:FS}
theorem KW(i:Nat){x:Str}(Z:m[i]? = some .bw:=by rfl)(hN:X.N[i]? = some x:=by rfl)(Y:ik X.env.scope x:=by first|exact Or.inl rfl|exact Or.inr (Or.inl rfl)|exact Or.inr (Or.inr rfl))(a:(x==("__debug__" : Str))=false:=by decide)(L:(x==("__classdict__" : Str))=false:=by decide):DT X g m (.Name x pos) fun r=>bh r i:=by refine PE.imp (lq hN Y a L) fun f H Q z=>?_;obtain⟨r,G,U,q⟩:=z;obtain⟨d,e,k⟩:=sD q;obtain⟨v,c,b⟩:=U.bw i d e Z;exact⟨v,c,k _ G H (Grow.refl U.gok) b⟩
theorem GB{K:W.Frag}{a:Addr}(o:Own K Y U a (.lst ds))(h:L a≠none)(b:lc L U)(c:bI Y G)(Z:lc L H):∃xs,bp K H a xs/\bJ K G xs ds:=by cases e:L a with
|none=>exact Q_g e h
|some u=>have f:=b a u e;have d:=Z a u e;cases o.ob with
 |lst r s=>rw[f]at r;cases r;exact⟨_,bp.of d,bJ.mono s c⟩
theorem Op{K:W.Frag}{a:Addr}(h:∀G H,bI Y G->bi K G H->lc U H->∃xs,bp K H a xs/\bJ K G xs ds):YieldsB K U (qR K a) ds Y:=by
 refine⟨fun G H i w L o f=>?_,fun G H i x g d w L o y e=>?_,fun G H w L o=>?_⟩
 .obtain⟨xs,s,r⟩:=h G H w L o;have c:=Paired.length r;exact⟨xs,xs[i],s,g_ (by omega)⟩
 .obtain⟨xs,s,r⟩:=h G H w L o;obtain⟨rfl,y⟩:=y;obtain⟨v,b,Z⟩:=Paired.get r e;have:=y xs s;rw[b]at this;cases this;exact⟨G,Grow.refl L,Z⟩
 .obtain⟨xs,s,r⟩:=h G H w L o;exact⟨xs,s,Ĉ (Paired.length r)⟩
theorem SI.oldIn{st:L2.St}(s:SI X g m r G st H):lc g.h0 H:=s.old
theorem MM(h:DT X g m e f):mO X g m tg e (aV bQ f):=by
 refine PI.imp (wQ h) fun k H R ⟨r,G,b,q⟩=>⟨r,G,b,bu (bv q) fun d q v Z Y w L=>?_⟩
 obtain⟨l,e,q⟩:=cJ q;cases d with
|lst U=>
  rcases L with L|⟨a,rfl,o,c⟩
  .obtain⟨a,xs,rfl,s,rs⟩:=L.lst w.ok;exact .inl ⟨a,rfl,⟨xs,s⟩,q _ Z Y w (yN L).toH⟩
  .cases o.ob with
  |lst r s=>exact .inl ⟨a,rfl,⟨_,bp.of r⟩,q _ Z Y w (Op fun p n j _ i=>GB o c (b.grow w).oldIn j i)⟩
|tup U=>
  rcases L with L|⟨a,rfl,o,c⟩
  .obtain⟨a,xs,rfl,s,rs⟩:=L.tup w.ok;exact .inr ⟨a,rfl,⟨xs,s⟩,q _ Z Y w (xG L).toH⟩
  .cases o.ob
|_=>cases e
theorem yM{K:W.Frag}{a:GH}(h:∀G H,bI a G->bi K G H->lc Z H->∃xs,Y H xs/\bJ K G xs ds):YieldsB K Z (mT Y) (cB 0 ds) a:=by
 refine⟨fun G H i w L o g=>?_,fun G H i x n d w L o y e=>?_,fun G H w L o=>?_⟩
 .obtain⟨xs,s,r⟩:=h G H w L o;rw[pv]at g;have l:=Paired.length r;exact⟨xs,xs[i],s,by grind⟩
 .obtain⟨xs,s,r⟩:=h G H w L o;obtain⟨p,v,f,rfl,rfl,c⟩:=y;rw[zC]at e;cases U:ds[i]? with
 |none=>rw[U]at e;cases e
 |some m=>rw[U]at e;simp  at e;subst e;obtain⟨k,j,b⟩:=Paired.get r U;have:=c xs s;rw[j]at this;cases this;exact⟨_,Grow.newF L f (.tup (.inl bV) (.cons (.scl (.int _)) (.cons b .nil))),.ref ga⟩
 .obtain⟨xs,s,r⟩:=h G H w L o;rw[pv];exact⟨xs,s,Paired.length r⟩
theorem NR(x:Gl X "enumerate")(u:X.mg "enumerate" = none)(y:DT X g m e f)(hs:f_ [e] X.env=(false,eval e X.env)::f_ [] X.env:=by rfl):mO X g m (.Tuple elts kk pos2) (.Call (.Name "enumerate" p) [e] [] pos) (jH f):=by
 refine PI.imp (GG x u y hs) fun z H R ⟨r,G,i,q⟩=>⟨r,G,i,bu (bv q) fun d q v h c w L=>?_⟩
 obtain⟨A,e,q⟩:=cJ (bv q);cases d with
|lst Z=>
  rcases L with L|⟨a,rfl,o,j⟩
  .obtain⟨a,xs,rfl,s,rs⟩:=L.lst w.ok;refine .inl ⟨a,rfl,⟨xs,s⟩,q _ h c w (yM fun G H U Y _=>?_)⟩;obtain⟨b,k,e,l,n⟩:=(L.mono U).lst Y
   grind
  .cases o.ob with
  |lst r s=>exact .inl ⟨a,rfl,⟨_,bp.of r⟩,q _ h c w (yM fun C B U _ t=>GB o j (i.grow w).oldIn U t)⟩
|tup Z=>
  rcases L with L|⟨a,rfl,o,j⟩
  .obtain⟨a,xs,rfl,s,rs⟩:=L.tup w.ok;refine .inr ⟨a,rfl,⟨xs,s⟩,q _ h c w (yM fun G H U Y _=>?_)⟩;obtain⟨b,k,e,l,n⟩:=(L.mono U).tup Y
   grind
  .cases o.ob
|_=>cases e
theorem F7(hp:ā (u_ X.prog X.w) X.A X.env X.xe)(hc:X.calm=true)(P:mO X g m tg iter fi)(hg:SG X g m tg ft m)(hb:fS X g ro m m sts s1 m)(hs:∀x,Zb iter X.env x=pure x:=by intro _;rfl):SS X g ro mb m (.For tg iter sts [] pos) (iU m fi ft s1) m:=by
 refine⟨rfl,PS.imp (wR hp hc P hg.2 hb.2 hs) fun D M H ⟨r,G,F,q⟩=>⟨r,G,F,bu (fY F rfl q) fun h q J z H0 N Y=>?_⟩⟩;refine⟨fun i n M H=>∃r G,SI X g m r G M H/\bI z G/\i<=h.length/\n=h.length-i/\cH X g ro m mb G D (aZ ft s1 (h.drop i) r),⟨h.length,r,z,F.grow N,bI.refl z,YQ _,rfl,cH.gle q N.ge⟩,?_⟩
 rintro i n C t ⟨O,v,a,c,P,rfl,q1⟩
 by_cases f:i<h.length
 .have hd:=Ī f;rw[hd]at q1;unfold aZ at q1;refine .inr ⟨Y.go v t i c a.gok a.oldIn f,fun p u=>∃r G,SI X g m r G p u/\bI z G/\cH X g ro m mb G D _,fun p u ⟨j,B,E,Z,T⟩=>⟨_,by omega,j,B,E,Z,f,rfl,T⟩,fun x u y=>?_⟩;obtain⟨B,l,S⟩:=Y.yld v t i x u h[i] c a.gok a.oldIn y (g_ f);have Z:=c.trans l.ge;cases K:ft h[i] O with
 |none=>simp only[K]at q1;exact q1.elim
 |some I=>simp only[K]at q1;refine⟨O,B,h[i],a.grow l,S,I,K,fun Q BT=>⟨I,B,BT,?_⟩⟩;cases o:s1 I with
  |nx j=>simp only[o]at q1;exact fun b k s L U=>⟨j,k,U,Z.trans L,cH.gle q1 (bI.trans l.ge L)⟩
  |ct j=>simp only[o]at q1;exact fun b k s L U=>⟨j,k,U,Z.trans L,cH.gle q1 (bI.trans l.ge L)⟩
  |bk j=>simp only[o]at q1;exact fun b k s L U=>q1 b k s (bI.trans l.ge L) U
  |rt d=>simp only[o]at q1;exact q1
  |exc x j=>simp only[o]at q1;exact fun W e R b k s L=>q1 W e R b k s (bI.trans l.ge L)
  |stuck=>simp only[o]at q1;exact q1
 .have e:i=h.length:=by omega
  subst e;rw[Į]at q1;exact .inl ⟨Y.stop v t c a.gok a.oldIn,q1 C v t (bI.refl _) a⟩
end
section
open HT (sIx)
section
variable{prog:C_}{w:S_}{A:T_}{E:Value->c_->Prop}{s:c_}
theorem UE{lo g:Option Int}(b:ã s.heap t a)(hs:s.heap.IsSliceOf c e d .none)(j:ø e lo)(i:ø d g)(f:sIx a.size 0 lo=0/\sIx a.size a.size g=a.size)(h:Q (.ref t) s):p_ (u_ prog w) A (ÿ (.ref t) (.ref c)) Q E s:=by
 obtain⟨k,Y,L,Z⟩:=id hs;have U:s.TypeIs (.ref c) "slice" := ⟨k,Y,L⟩
 unfold ÿ
 try with_reducible refine YH ?_
 refine Q_a (Qel b.typeIs (rfl) (Q_a (YX b.typeIs YF (Y0 YF b.typeIs PyProof.Rows.entry_tuple_getitem ?_ (PyProof.Rows.args_tuple_getitem _ _)))));show p_ _ _ (QbZ _ >>= _) _ _ s;refine Q_a (PyProof.Rows.tupleItemsOf_ b (Q_a (ZN U ?_)));refine Q_a (HT.cu hs j i ?_);rw[f.1,f.2];show p_ _ _ (if (((0))==0&&(1)==1&&(a.size-0)==a.size)=true then _ else _) _ _ s;rw[Q_e (by simp)];refine Q_a (Q_a (ZN b.typeIs (e_ ?_)));refine Q_a (ü ?_);exact e_ ⟨_,rfl,e_ h⟩
end
def Dq(K:W.Frag):V->Option Int->Option Int->Hp->VK->Prop:=fun x lo hi H Q=>∃a xs,x=.ref a/\cg K H a xs/\(sIx xs.length 0 lo=0/\sIx xs.length xs.length hi=xs.length)/\Q (.ref a) H
theorem Qu:jJ X (Dq X.K):=by
 intro m s i H x v k j lo o l Q I b g d c h;obtain⟨a,Z,rfl,e,f,q⟩:=h;cases b;obtain⟨U,r,Y,n⟩:=I.tuple e;have L:U.toArray.size=Z.length:=by exact r.length.symm
 exact⟨"tuple",_,YF.lookup,Y.typeIs,UE Y g d c (by rw[L];exact f) ⟨.ref a,H,I,rfl,q⟩⟩
def qj(d:D)(lo hi:Option Int):Option D:=match d with
|.tup ds=>some (.tup (aT ds lo hi))
|.lst ds=>some (.lst (aT ds lo hi))
|_=>none
def kQ(fa:FE)(fl fh:FP):FE:=fun r=>(fa r).bind fun d=>(fl r).bind fun lo=>(fh r).bind fun hi=>dD (qj d lo hi)
section
variable{X:Cx}{g:GE}{m:List Md}{e:Expr}{f fa:FE}{pos p2:Pos}
theorem Px{R:V->Option Int->Option Int->Hp->Prop}{q:D->Prop}(b:SI X g m r G σ H)(h:fin (kQ fa fl i r) q (XW X σ G H))(n:∀d lo Z v a L d',Grow X.K G H a L->RB X.K a L v d->qj d lo Z=some d'->q d'->R v lo Z L):tB X g m fa σ H fun x j=>tP X g m fl σ j fun l L=>tP X g m i σ L fun u c=>R x l u c:=by refine⟨r,G,b,bu (bv h) fun d t v y j U k=>⟨r,y,b.grow U,ic (bv t) U fun lo s a L Y=>⟨r,a,(b.grow U).grow Y,?_⟩⟩⟩;refine ic (bv s) (U.trans Y) fun Z p w c f=>?_;obtain⟨d',e,o⟩:=cJ p;exact n d lo Z v w c d' ((U.trans Y).trans f) ((k.mono Y).mono f) e o
theorem RA{ds:List U}{lo L:Option Int}(h:sIx ds.length 0 lo=0/\sIx ds.length ds.length L=ds.length):aT ds lo L=ds:=by unfold aT;rw[h.1,h.2];simp
theorem vQ{lo L:Option Expr}(n:SB X g m e f)(l:lM X g m lo fl)(k:lM X g m L h):SE X g m (.Subscript e (.Slice lo L none p2) pos) (kQ f fl h):=by refine PE.imp (zH (jJ.or Qu (jJ.or yY Ge)) n l k) fun u H Q z=>?_;obtain⟨r,G,i,q⟩:=z;refine Px i q fun d lo L v t o x w U e Z=>?_;cases d with
|tup Y=>
  cases e;rcases U with U|⟨y,_,j⟩
  .obtain⟨a,xs,rfl,s,r⟩:=U.tup w.ok;by_cases b:sIx Y.length 0 lo=0/\sIx Y.length Y.length L=Y.length
   .refine .inl ⟨a,xs,rfl,s,by rw[Paired.length r];exact b,?_⟩;rw[RA b]at Z;exact Z _ t o w U
   .rw[<-Paired.length r]at b;refine .inr (.inr ⟨a,xs,rfl,s,b,fun p c=>?_⟩);exact Z _ _ _ (w.trans (Grow.newF w.ok c (.tup (.inl bV) (oq r lo L)))) (.ref ga)
  .cases j.ob
|lst Y=>cases e;obtain⟨a,xs,rfl,s,r⟩:=U.lst w.ok;exact .inr (.inl ⟨a,xs,rfl,s,fun p c=>Z _ _ _ (w.trans (Grow.newF w.ok c (.lst (.inl bV) (oq r lo L)))) (.ref ga)⟩)
|_=>cases e
end
end
section
open AutoSeq1 (wpAny_loadPart')
structure ZA(zp ti to u1 u2:Addr)(f1 f2:List Addr):Prop where
 a1:ti≠zp
 a2:to≠zp
 a3:u1≠zp
 a4:u2≠zp
 a5:to≠u1
 a6:to≠u2
 a7:u1≠u2
 a8:ti≠to/\ti≠u1/\ti≠u2
 b1:zp∉f1/\to∉f1/\u2∉f1
 b2:zp∉f2/\to∉f2/\u1∉f2
theorem _root_.PySem.Draws.at'{prog:C_}{w:S_}{A:T_}{L:Addr}{fp:List Addr}{n:Nat}{P:Nat->Value->Prop}{St:Nat->Heap->Prop}(D:ó prog w A L fp n P St){i:Nat}{h h':Heap}{c:Addr}(st:St i h)(e:ĩ c h h')(U:c∉fp):St i h':=D.frame i h h' st fun b Y o q=>e b o (by rintro rfl;exact U Y) q
section
variable{prog:C_}{w:S_}{A:T_}{E:Value->c_->Prop}{s:c_}{zp ti to u1 u2:Addr}{f1 f2:List Addr}{n1 n2:Nat}{P1 P2:Nat->Value->Prop}{St1 St2:Nat->Heap->Prop}{p q:Value}
theorem Sd{Q:Value->c_->Prop}(Z:ZA zp ti to u1 u2 f1 f2)(f:ó prog w A u1 f1 n1 P1 St1)(d:ó prog w A u2 f2 n2 P2 St2)(hz:ì s.heap zp ti to .none)(hi:á s.heap ti (.ref u1) (.ref u2))(X:á s.heap to p q)(O:St1 i s.heap)(N:St2 i s.heap)(W:i<n1)(T:i<n2)(hQ:∀x y h' M,P1 i x->P2 i y->ì h' zp ti to (â s.heap.objs.size)->á h' to x y->St1 (i+1) h'->St2 (i+1) h'->á h' s.heap.objs.size x y->h'.objs.size=s.heap.objs.size+1 ->(∀c o,c≠zp->c≠to->c≠u1->c≠u2->s.heap.get? c=some o->h'.get? c=some o)->Q (.ref s.heap.objs.size) { s with heap:=h',toks:=M }):p_ (u_ prog w) A (Zf.«zip.__next__» ⟨[.ref zp],[]⟩) (fun fin P=>∃v,fin=.done (.ret v)/\Q v P) E s:=by
 show p_ _ _ (Å (.ref zp) 2 >>= _) _ _ _;refine Q_a (Q_ hz rfl (x:=.bool false) rfl ?_);refine Q_a (Q_ hz rfl (x:=.ref ti) rfl (Q_a (YC hi rfl ?_)));refine Q_a ?_;unfold YW;refine Q_a (Q_ hz rfl (x:=.none) rfl (e_ ?_));simp only[Q_o];refine Q_a (ü (Q_a (Q_ hz rfl (x:=.ref to) rfl (Q_a (YO hz (by simp) fun g1 Tm l=>?_)))));refine Q_a ?_;simp only[Ţ,Ŧ,ZW,İ];refine Q_a (Q_a (Í ?_));refine Q_a (f.item i _ _ _ W (f.at' O l.extBut Z.b1.1) fun x g2 t2 S V6 k=>e_ ?_);have n:á g2 to p q:=k.extBut _ _ Z.a5 (l.extBut _ _ Z.a2 X);refine Q_a (YC n rfl (Q_a (Ū n fun g3 Y j=>?_)));replace Y:á g3 to x q:=Y;refine Q_a (Z7 (e_ ?_));refine Q_a (Q_a (Í ?_));refine Q_a (d.item i _ _ _ T (d.at' (d.at' (d.at' N l.extBut Z.b2.1) k.extBut Z.b2.2.2) j.extBut Z.b2.2.1) fun y g4 t4 R ST h=>e_ ?_);have I:á g4 to x q:=h.extBut _ _ Z.a6 Y;refine Q_a (YC I rfl (Q_a (Ū I fun a L g=>?_)));replace L:á a to x y:=L;refine Q_a (Z7 (e_ (e_ ?_)));refine Q_a (YC L rfl (Q_a (ķ ?_)));have m:a.objs.size=s.heap.objs.size:=by rw[g.1,h.1,j.1,k.1,l.1]
 have K:ì a zp ti to .ellipsis:=g.extBut _ _ Z.a2.symm (h.extBut _ _ Z.a4.symm (j.extBut _ _ Z.a2.symm (k.extBut _ _ Z.a3.symm Tm)));have LE:St1 (i+1) a:=f.at' (f.at' (f.at' V6 j.extBut Z.b1.2.1) h.extBut Z.b1.2.2) g.extBut Z.b1.2.1;have KK:St2 (i+1) a:=d.at' ST g.extBut Z.b2.2.1;have U:zp<a.objs.size:=o_ K;refine Q_a ?_;unfold Z0;have LT:ì (a.push { cls:=.type "tuple",data:=.seq #[x,y] }) zp ti to .ellipsis:=a_ _ K;refine Q_a (YO LT (by simp) fun g7 Ty B=>?_);refine YO Ty (by simp) fun u G z=>?_;have t:∀c o,c≠zp->a.get? c=some o->u.get? c=some o:=fun c o r e=>z.extBut _ _ r (B.extBut _ _ r (a_ _ e));have J:á u a.objs.size x y:=z.extBut _ _ (YS U) (B.extBut _ _ (YS U) (i_ _ rfl));have H:u.objs.size=a.objs.size+1:=by rw[z.1,B.1,H_]
 rw[m]at G J H;refine e_ ⟨_,rfl,?_⟩;show Q (.ref a.objs.size) _;rw[m];refine hQ x y u _ S R G (t _ _ Z.a2 L) (f.frame _ _ _ LE fun b C o e=>t b o (by rintro rfl;exact Z.b1.1 C) e) (d.frame _ _ _ KK fun b C o e=>t b o (by rintro rfl;exact Z.b2.1 C) e) J H fun c o r F c3 c4 e=>t c o r ?_;exact g.extBut _ _ F (h.extBut _ _ c4 (j.extBut _ _ F (k.extBut _ _ c3 (l.extBut _ _ r e))))
theorem RD(Z:ZA zp ti to u1 u2 f1 f2)(j:ó prog w A u1 f1 n1 P1 St1)(h:ó prog w A u2 f2 n2 P2 St2)(hz:ì s.heap zp ti to .none)(I:á s.heap ti (.ref u1) (.ref u2))(H:á s.heap to p q)(u:St1 i s.heap)(G:St2 i s.heap)(L:i=n1\/(i<n1/\i=n2))(z:∀h' e F,(∀c o,c≠zp->c≠to->c≠u1->c≠u2->s.heap.get? c=some o->h'.get? c=some o)->(∃o,h'.get? e=some o/\o.cls=.type "StopIteration")->E (.ref e) { s with heap:=h',toks:=F }):p_ (u_ prog w) A (Zf.«zip.__next__» ⟨[.ref zp],[]⟩) Q E s:=by
 show p_ _ _ (Å (.ref zp) 2 >>= _) _ _ _;refine Q_a (Q_ hz rfl (x:=.bool false) rfl ?_);refine Q_a (Q_ hz rfl (x:=.ref ti) rfl (Q_a (YC I rfl ?_)));refine Q_a ?_;unfold YW;refine Q_a (Q_ hz rfl (x:=.none) rfl (e_ ?_));simp only[Q_o];refine Q_a (ü (Q_a (Q_ hz rfl (x:=.ref to) rfl (Q_a (YO hz (by simp) fun T C d=>?_)))));refine Q_a ?_;simp only[Ţ,Ŧ,ZW,İ];refine Q_a (Q_a (Í ?_));rcases L with L|⟨l,L⟩
 .subst L;refine Q_a (j.done _ _ _ (j.at' u d.extBut Z.b1.1) fun n e a m=>?_);obtain⟨k,t,U⟩:=m;have P:ì n zp ti to .ellipsis:=a _ _ Z.a3.symm C;have Y:e≠zp:=fun x=>by grind
  exact YO P (by simp) fun B _ b=>z B e _ (fun c o g _ r _ x=>b.extBut _ _ g (a _ _ r (d.extBut _ _ g x))) ⟨k,b.extBut _ _ Y t,U⟩
 .subst L;refine Q_a (j.item _ _ _ _ l (j.at' u d.extBut Z.b1.1) fun x n R S X a=>e_ ?_);have f:á n to p q:=a.extBut _ _ Z.a5 (d.extBut _ _ Z.a2 H);refine Q_a (YC f rfl (Q_a (Ū f fun B W b=>?_)));refine Q_a (Z7 (e_ ?_));refine Q_a (Q_a (Í ?_));refine Q_a (h.done _ _ _ (h.at' (h.at' (h.at' G d.extBut Z.b2.1) a.extBut Z.b2.2.2) b.extBut Z.b2.2.1) fun K e y m=>?_);obtain⟨k,t,U⟩:=m;have O:ì K zp ti to .ellipsis:=y _ _ Z.a4.symm (b.extBut _ _ Z.a2.symm (a.extBut _ _ Z.a3.symm C));have Y:e≠zp:=fun x=>by grind
  exact YO O (by simp) fun J _ v=>z J e _ (fun c o g N r M x=>v.extBut _ _ g (y _ _ M (b.extBut _ _ N (a.extBut _ _ r (d.extBut _ _ g x))))) ⟨k,v.extBut _ _ Y t,U⟩
theorem TX(Z:ZA zp ti to u1 u2 f1 f2)(z:ó prog w A.in1 u1 f1 n1 P1 St1)(v:ó prog w A.in1 u2 f2 n2 P2 St2)(hz:ì s.heap zp ti to .none)(f:á s.heap ti (.ref u1) (.ref u2))(e:á s.heap to p q)(a:St1 i s.heap)(Y:St2 i s.heap)(d:i<n1)(b:i<n2)(g:∀x y h' L,P1 i x->P2 i y->ì h' zp ti to (â s.heap.objs.size)->á h' to x y->St1 (i+1) h'->St2 (i+1) h'->á h' s.heap.objs.size x y->h'.objs.size=s.heap.objs.size+1 ->(∀c o,c≠zp->c≠to->c≠u1->c≠u2->s.heap.get? c=some o->h'.get? c=some o)->Q (some (.ref s.heap.objs.size)) { s with heap:=h',toks:=L }):p_ (u_ prog w) A (å (.ref zp)) Q E s:=by
 have U:s.TypeIs (.ref zp) "zip" := ⟨_,hz,rfl⟩
 exact Q_a (Î (YX U F.slot_zip_next (Y0 F.slot_zip_next U F.entry_zip_next
   (Sd Z z v hz f e a Y d b fun x y h' L u t r n m l k j h=>e_ (g x y h' L u t r n m l k j h)) (F.args_zip_next_1 _))))
theorem US(Z:ZA zp ti to u1 u2 f1 f2)(m:ó prog w A.in1 u1 f1 n1 P1 St1)(l:ó prog w A.in1 u2 f2 n2 P2 St2)(hz:ì s.heap zp ti to .none)(g:á s.heap ti (.ref u1) (.ref u2))(U:á s.heap to p q)(d:St1 i s.heap)(b:St2 i s.heap)(L:i=n1\/(i<n1/\i=n2))(k:∀h' Y,(∀c o,c≠zp->c≠to->c≠u1->c≠u2->s.heap.get? c=some o->h'.get? c=some o)->Q none { s with heap:=h',toks:=Y }):p_ (u_ prog w) A (å (.ref zp)) Q E s:=by
 have a:s.TypeIs (.ref zp) "zip" := ⟨_,hz,rfl⟩
 refine Q_a (Î (YX a F.slot_zip_next (Y0 F.slot_zip_next a F.entry_zip_next (RD Z m l hz g U d b L fun h' e Y f h=>?_) (F.args_zip_next_1 _))));obtain⟨o,U,j⟩:=h;exact Q_a (Ġ ⟨o,U,j⟩ Ŷ (e_ (k _ _ f)))
end
abbrev dP(c:String)(l:Addr):Obj:={ cls:=.type c,data:=.fields #[.ref l,.int 0 0] }
abbrev tw(h:Heap)(c1 c2:String)(l1 l2:Addr):Heap:=(h.push (dP c1 l1)).push (dP c2 l2)
abbrev tu(h:Heap)(c1 c2:String)(l1 l2:Addr):Heap:=(tw h c1 c2 l1 l2).push { cls:=.type "tuple",data:=.seq #[.ref h.objs.size,.ref (h.push (dP c1 l1)).objs.size] }
abbrev nv(h:Heap)(c1 c2:String)(l1 l2:Addr):Heap:=(tu h c1 c2 l1 l2).push { cls:=.type "tuple",data:=.seq #[.none,.none] }
abbrev lx(h:Heap)(c1 c2:String)(l1 l2:Addr):Heap:=(nv h c1 c2 l1 l2).push { cls:=.type "zip",data:=.fields #[.none,.bool false,.bool false,.ref (tw h c1 c2 l1 l2).objs.size,.ref (tu h c1 c2 l1 l2).objs.size] }
abbrev kM(t:Bool):String:=match t with
|false => "list_iterator"
|true => "tuple_iterator"
theorem Eu(e:lK t l xs s.heap)(h:Q (.ref s.heap.objs.size) { s with heap:=s.heap.push (dP (kM t) l) }):p_ (u_ prog w) A (ö (.ref l)) Q E s:=by cases t with
|false=>exact Þ e h
|true=>exact ZK e h
theorem Q2(t1 t2:Bool)(L U:Addr)(xs Y:Array Value):ë (Zf.«zip.__new__» ⟨[.type "zip",.ref L,.ref U],[]⟩) (fun _ R s=>lK t1 L xs s.heap/\lK t2 U Y s.heap /\R (.ok (.ret (.ref (nv s.heap (kM t1) (kM t2) L U).objs.size))) { s with heap:=lx s.heap (kM t1) (kM t2) L U }):=
 .of_wp fun a w A R s h=>by
  obtain⟨d,e,f,Z,b⟩:=s;obtain⟨q1,g,h⟩:=h;have c:=sub_zip;have j:lK t1 L xs (Ē ⟨d,e,f,Z,b⟩):=q1;have i:lK t2 U Y (Ē ⟨d.push (dP (kM t1) L),e,f,Z,b⟩):=QD g fun o=>a_ _
  wp_walk using Eu j,Eu i
  exact⟨_,rfl,h⟩
section
variable{prog:C_}{w:S_}{A:T_}{E:Value->c_->Prop}{s:c_}
def qO(s:c_)(c1 c2:String)(l1 l2:Addr)(Q:Value->c_->Prop):Prop:=∀h',ì h' (s.heap.objs.size+4) (s.heap.objs.size+2) (s.heap.objs.size+3) .none->á h' (s.heap.objs.size+2) (.ref s.heap.objs.size) (.ref (s.heap.objs.size+1)) ->á h' (s.heap.objs.size+3) .none .none->h'.get? s.heap.objs.size=some (dP c1 l1)->h'.get? (s.heap.objs.size+1)=some (dP c2 l2) ->(∀c o,s.heap.get? c=some o->h'.get? c=some o)->Q (.ref (s.heap.objs.size+4)) { s with heap:=h' }
theorem OR(h:qO s U Z L Y Q):(∃o,(lx s.heap U Z L Y).get? (nv s.heap U Z L Y).objs.size=some o/\o.cls=.type "zip")/\Q (.ref (nv s.heap U Z L Y).objs.size) { s with heap:=lx s.heap U Z L Y }:=by
 have b:(s.heap.push (dP U L)).objs.size=s.heap.objs.size+1:=H_ ..;have a:(tw s.heap U Z L Y).objs.size=s.heap.objs.size+2:=by rw[H_,b]
 have z3:(tu s.heap U Z L Y).objs.size=s.heap.objs.size+3:=by rw[H_,a]
 have e:(nv s.heap U Z L Y).objs.size=s.heap.objs.size+4:=by rw[H_,z3]
 have d:(lx s.heap U Z L Y).get? (nv s.heap U Z L Y).objs.size=some _:=i_ _ rfl;have f:(lx s.heap U Z L Y).get? (tu s.heap U Z L Y).objs.size=some _:=a_ _ (i_ _ rfl);have g:(lx s.heap U Z L Y).get? (tw s.heap U Z L Y).objs.size=some _:=a_ _ (a_ _ (i_ _ rfl));have i:(lx s.heap U Z L Y).get? (s.heap.push _).objs.size=some _:=a_ _ (a_ _ (a_ _ (i_ _ rfl)));have j:(lx s.heap U Z L Y).get? s.heap.objs.size=some _:=a_ _ (a_ _ (a_ _ (a_ _ (i_ _ rfl))));rw[a,z3,e]at d;rw[b,a]at g;rw[z3]at f;rw[b]at i;rw[e];exact⟨⟨_,d,rfl⟩,h _ d g f j i fun c o x=>a_ _ (a_ _ (a_ _ (a_ _ (a_ _ x))))⟩
end
end
theorem GU(e:h.get? u=some (dP (kM t) a)):kP t a u 0 h:=by cases t <;> exact⟨_,e,rfl,rfl⟩
section
variable{pz:List (Addr×Obj)}{σ:L2.St}{H:Hp}{s:c_}{t:Bool}{a u:Addr}{xs ys:List V}{i:Nat}
theorem R5{ch:List Addr}(I:Inv X pz σ H s)(L:∀b∈ch,dG X pz H b)(k:∀b U,b∉ch->s.heap.get? b=some U->h'.get? b=some U):Inv X pz σ H { s with heap:=h',toks:=t' }:=by
 have trk:∀b u,H b=some u->b∉ch:=fun b u e Y=>by rw[(L b Y).1]at e;cases e
 refine I.step (fun b Y=>?_) (by simp_all) (fun b U _ _ Z e _=>⟨U.slots,k b U Z e⟩) (by simp_all)
  (by simp_all) (by simp_all) (by simp_all) (fun b f e=>⟨#[],by rw[e];simp⟩) (fun m a=>?_) (fun b u e=>?_) I.bare
 .obtain⟨z0,z1,z2,z3,z4,z5⟩:=L b Y
  grind
 .obtain⟨U,es,ep,ho,r⟩:=a;exact⟨U,es,ep,k _ U (fun Y=>(L _ Y).2.1 rfl) ho,r⟩
 .refine(I.hok b u e).stay (fun c v Z q=>k c v ?_ q) (fun c q=>q) fun c d q=>q
  grind
end
def uT(sq1 sq2:Hp->List V->Prop):It:=⟨fun i H=>∃xs ys x y,sq1 H xs/\sq2 H ys/\xs[i]? = some x/\ys[i]? = some y,fun i H x H'=>∃p v u,H p=none/\x=.ref p/\H'=aO H p (.tup [v,u])/\(∀xs,sq1 H xs->xs[i]? = some v)/\∀ys,sq2 H ys->ys[i]? = some u,fun i H=>∃xs ys,sq1 H xs/\sq2 H ys/\min xs.length ys.length=i⟩
theorem QI(L:h.get? T=some { cls:=.type "tuple",data:=.seq #[x,y] })(r1:L2.av v x)(U:L2.av u y):df P w H h T (.tup [v,u]):=⟨by show 2<=sizeLine;decide,[x,y],.cons r1 (.cons U .nil),⟨_,L,rfl,0,rfl⟩,_,L,rfl⟩
theorem Qy{K:W.Frag}{t1 t2:Bool}(a b zp ti to u1 u2:Addr)(Z:ZA zp ti to u1 u2 [u1,a] [u2,b])(h1:a≠u1)(h2:b≠u2):Turn P w K (.Tuple elts k pos) (uT (fD K t1 a) (fD K t2 b)) [zp,ti,to,u1,u2] zp (fun i h=>ì h zp ti to .none/\á h ti (.ref u1) (.ref u2)/\(∃p q,á h to p q)/\kP t1 a u1 i h/\kP t2 b u2 i h) where
 mem:=by simp
 obj:=fun i h st c hc=>by
  obtain⟨hz,hi,⟨p,q,ho⟩,s1,s2⟩:=st;simp only[s_,L_,Q_m]at hc;rcases hc with rfl|rfl|rfl|rfl|rfl
  .simp_all
  .simp_all
  .simp_all
  .exact nt s1
  .exact nt s2
 keep:=fun i h h' st kk=>by obtain⟨hz,hi,⟨p,q,ho⟩,s1,s2⟩:=st;exact⟨kk zp (by simp) _ hz,kk ti (by simp) _ hi,⟨p,q,kk to (by simp) _ ho⟩,nA s1 fun o e=>kk u1 (by simp) o e,nA s2 fun o e=>kk u2 (by simp) o e⟩
 item:=by
  intro X hP hw hK hc i pz s σ H E I hf st hg;subst hP hw hK;obtain⟨xs,ys,x,y,q1,q2,hx,hy⟩:=hg;obtain⟨hz,hi,⟨p,q,ho⟩,s1,s2⟩:=st;obtain⟨ac,St1,Y,D1,d1,f1⟩:=m6 I hc q1 h1 s1;obtain⟨BT,St2,U,D2,d2,f2⟩:=m6 I hc q2 h2 s2;have l1:i<ac.toArray.size:=by have:=(h_.mp hx).1;rw[A_,<-Y.length];exact this
  have l2:i<BT.toArray.size:=by have:=(h_.mp hy).1;rw[A_,<-U.length];exact this
  refine TX Z D1 D2 hz hi ho d1 d2 l1 l2 fun vx vy h' tk px py LT KK Id LE hT hsz hk=>⟨_,rfl,wpAny_letOwnedTupleGo_zip LT fun ST Cl L=>?_⟩
  obtain⟨wx,e1,r1⟩:=Y.get hx;obtain⟨wy,e2,r2⟩:=U.get hy;have ex:vx=wx:=by grind
  have ey:vy=wy:=by grind
  subst ex ey;have nT:∀c o,s.heap.get? c=some o->s.heap.objs.size≠c:=fun c o e=>YS (o_ e);have IO:=(L.2 _ (nT _ _ hz)).trans hT;obtain⟨o1,Tm,_⟩:=nt s1;obtain⟨o2,ho2,_⟩:=nt s2;refine⟨.ref s.heap.objs.size,aO H s.heap.objs.size (.tup [x,y]),Il (s:=s) (h':=ST) (t':=tk) (ch:=[zp,to,u1,u2]) I (fun c hc=>hf c ?_) (fun c ob hb e=>?_) (q_ _) (QI IO r1 r2),rfl,⟨_,x,y,I.hok.fresh (q_ _),rfl,rfl,fun zs hz=>by rw[yI I hz q1];exact hx,fun zs hz=>by rw[yI I hz q2];exact hy⟩,⟨Cl,?_,⟨vx,vy,?_⟩,?_,?_⟩,fun c hc=>?_⟩
  .grind
  .simp only[s_,L_,Q_m,not_or]at hb;exact(L.2 c hb.1).trans (hk c ob hb.1 hb.2.1 hb.2.2.1 hb.2.2.2 e)
  .exact(L.2 _ Z.a1).trans (hk _ _ Z.a1 Z.a8.1 Z.a8.2.1 Z.a8.2.2 hi)
  .exact(L.2 _ Z.a2).trans KK
  .exact nA (f1 _ _ Id) fun o e=>(L.2 _ Z.a3).trans e
  .exact nA (f2 _ _ LE) fun o e=>(L.2 _ Z.a4).trans e
  .rw[bN ?_]
   .exact(hf c hc).1
   grind
 done:=by
  intro X hP hw hK hc i pz s σ H E I hf st hg;subst hP hw hK;obtain⟨xs,ys,q1,q2,hm⟩:=hg;obtain⟨hz,hi,⟨p,q,ho⟩,s1,s2⟩:=st;obtain⟨ac,St1,Y,D1,d1,f1⟩:=m6 I hc q1 h1 s1;obtain⟨BT,St2,U,D2,d2,f2⟩:=m6 I hc q2 h2 s2;have l1:=Y.length;have l2:=U.length;refine US Z D1 D2 hz hi ho d1 d2 ?_ fun h' tk hk=>⟨rfl,R5 (h':=h') (t':=tk) (ch:=[zp,to,u1,u2]) I (fun c hc=>hf c ?_) fun c ob hb e=>?_⟩
  .grind
  .grind
  simp_all
 self:=fun _ _ _ _ _ st h=>Ů st.1 h
def gY(fa fb:FE):FI:=fun r=>(fa r).bind fun d=>(fb r).bind fun e=>(dD (bQ d)).bind fun ds=>(dD (bQ e)).bind fun es=>.ok (È (fun a b=>D.tup [a,b]) ds es)
theorem RE{U L Y:Type}(f:U->L->Y):∀(l:List U)(r:List L)(i:Nat),(È f l r)[i]? = (match l[i]?,r[i]? with|some a,some b=>some (f a b)|_,_=>none):=fun l r i=>by rw[Qdk];cases l[i]? <;> cases r[i]? <;> rfl
theorem NY{K:W.Frag}{m:GH}{Z Y:Hp->List V->Prop}(j:∀G H,bI m G->bi K G H->∃xs,Z H xs/\bJ K G xs ds)(h:∀G H,bI m G->bi K G H->∃xs,Y H xs/\bJ K G xs k):Yields K (uT Z Y) (È (fun a b=>D.tup [a,b]) ds k) m:=by
 refine⟨fun G H i w L C=>?_,fun G H i x O d w L y e=>?_,fun G H w L=>?_⟩
 .obtain⟨xs,s1,r1⟩:=j G H w L;obtain⟨U,c,f⟩:=h G H w L;rw[ş]at C;have J:=Paired.length r1;have I:=Paired.length f;exact⟨xs,U,xs[i]'(by omega),U[i]'(by omega),s1,c,g_ _,g_ _⟩
 .obtain⟨xs,s1,r1⟩:=j G H w L;obtain⟨U,c,f⟩:=h G H w L;obtain⟨p,v,u,B,rfl,rfl,z,A⟩:=y;rw[RE]at e;cases g:ds[i]? with
 |none=>rw[g]at e;cases e
 |some N=>cases l:k[i]? with
  |none=>rw[g,l]at e;cases e
  |some M=>rw[g,l]at e;cases e;obtain⟨E,r,s⟩:=Paired.get r1 g;obtain⟨F,q,t⟩:=Paired.get f l;have o:=z xs s1;have n:=A U c;rw[r]at o;cases o;rw[q]at n;cases n;exact⟨_,Grow.newF L B (.tup (.inl bV) (.cons s (.cons t .nil))),.ref ga⟩
 .obtain⟨xs,s1,r1⟩:=j G H w L;obtain⟨U,c,f⟩:=h G H w L;refine⟨xs,U,s1,c,?_⟩;rw[ş,Paired.length r1,Paired.length f]
section
variable{e1 e2:Expr}{fa fb:FE}
theorem Oe{σ:L2.St}{xs Z:List V}{E:Value->c_->Prop}{Q:Value->c_->Prop}(I:Inv X pz σ H s)(q1:fD X.K t1 a H xs)(c:fD X.K t2 b H Z)(h:qO s (kM t1) (kM t2) a b Q):p_ (u_ X.prog X.w) X.A (call (.type "zip") [.ref a,.ref b]) Q E s:=by obtain⟨U,_,e⟩:=r6 I q1;obtain⟨L,_,d⟩:=r6 I c;exact ġ F.called_zip (rfl) (F.typeCall_zip_2 _ _) (F.newCall_zip_2 _ _) (fun Y=>F.args_object_init_3 Y _ _) F.entry_zip_new (Q2 t1 t2 a b U.toArray L.toArray) ⟨e,d,OR h⟩
theorem lW{x y:Nat}(h:x≠y):(show Addr from x)≠(show Addr from y):=h
theorem NZ{a b k:Nat}(U:a<k)(L:b<k):ZA (show Addr from k+4) (show Addr from k+2) (show Addr from k+3) (show Addr from k) (show Addr from k+1) [(show Addr from k),(show Addr from a)] [(show Addr from k+1),(show Addr from b)]:=⟨lW (by omega),lW (by omega),lW (by omega),lW (by omega),lW (by omega),lW (by omega),lW (by omega),by grind,by grind,by grind⟩
theorem MI{c k:Nat}(h:c=k+4\/c=k+2\/c=k+3\/c=k\/c=k+1):k<=c:=by omega
theorem NA{m tb:TE}(Q:Gl X "zip")(O:X.mg "zip" = none)(T:PE X e1 m)(S:PE X e2 tb)(hs:f_ [e1,e2] X.env=(false,eval e1 X.env)::f_ [e2] X.env:=by rfl)(Y:f_ [e2] X.env=(false,eval e2 X.env)::f_ [] X.env:=by rfl)(g:(backTo pos (f_ [e2] X.env)).any (·.1)=false:=by rfl):PI X (.Tuple elts kk pos2) (.Call (.Name "zip" p) [e1,e2] [] pos) (fun σ H R=>m σ H fun x i=>tb σ i fun y d=>∃(t1 t2:Bool)(a b:Addr),x=.ref a/\y=.ref b/\(∃xs,fD X.K t1 a d xs)/\(∃f,fD X.K t2 b d f)/\R (uT (fD X.K t1 a) (fD X.K t2 b)) d):=by
 intro F s σ H R I h;refine Call_ (iq I Q O boot_zip (YD (aW (fZ T (fZ S iZ Y) hs pos F s σ H (fun l d=>match l with
 |[x,y]=>∃(t1 t2:Bool)(a b:Addr),x=.ref a/\y=.ref b/\(∃xs,fD X.K t1 a d xs)/\(∃f,fD X.K t2 b d f)/\R (uT (fD X.K t1 a) (fD X.K t2 b)) d
 |_=>False) I h) fun z Z m=>?_) hs g));obtain⟨l,i,e,E,q1⟩:=m
 cases E with
|nil=>exact q1.elim
|@cons x u xs z B C=>cases C with
|nil=>exact q1.elim
|@cons y u' v w A U=>cases U with
|cons _ _=>exact q1.elim
|nil=>
 obtain⟨t1,t2,a,b,rfl,rfl,⟨W,k⟩,⟨ws,j⟩,q⟩:=q1;cases B;cases A;have o:=nC e k;have n:=nC e j;refine Oe e k j fun h' r P N J G M=>Ů r ?_;refine⟨_,[Z.heap.objs.size+4,Z.heap.objs.size+2,Z.heap.objs.size+3,Z.heap.objs.size,Z.heap.objs.size+1],_,_,i,rfl,e.kept (t':=Z.toks) M,Qy (t1:=t1) (t2:=t2) a b _ _ _ _ _ (NZ o n) (z_ o) (z_ (Y2 n)),⟨r,P,⟨_,_,N⟩,GU J,GU G⟩,fun c t=>?_,q⟩;have L:Z.heap.objs.size<=c:=by simp only[s_,L_,Q_m]at t;exact MI t
 exact e.fpOk L (e.hok.fresh L)
theorem vB(Q:Gl X "zip")(P:X.mg "zip" = none)(T:SE X g m e1 fa)(S:SE X g m e2 fb)(hs:f_ [e1,e2] X.env=(false,eval e1 X.env)::f_ [e2] X.env:=by rfl)(U:f_ [e2] X.env=(false,eval e2 X.env)::f_ [] X.env:=by rfl)(w:(backTo pos (f_ [e2] X.env)).any (·.1)=false:=by rfl):gj X g m (.Tuple elts kk pos2) (.Call (.Name "zip" p) [e1,e2] [] pos) (gY fa fb):=by
 refine PI.imp (NA Q P T S hs U w) fun σ H R ⟨r,G,A,q⟩=>⟨r,G,A,bu (bv q) fun d q v G1 H1 k Z=>⟨r,G1,A.grow k,?_⟩⟩
 refine ic (bv q) k fun e q u z B h N=>?_;obtain⟨i,f,q⟩:=cJ (bv q);obtain⟨es,W,q⟩:=cJ (bv q);have L:=Z.mono h.ge;have c:∀{v:V}{d:D}{i:List D},RG X.K z v d->bQ d=some i->∃(t:Bool)(a:Addr),v=.ref a/\(∃Y,fD X.K t a B Y)/\∀G H,bI z G->bi X.K G H->∃Y,fD X.K t a H Y/\bJ X.K G Y i:=by intro v d i Z f;cases d with
 |lst y=>cases f;obtain⟨a,Y,rfl,s,O⟩:=Z.lst h.ok;refine⟨false,a,rfl,⟨Y,s⟩,fun G H o x=>?_⟩;obtain⟨b,j,e,l,n⟩:=(Z.mono o).lst x;cases e;exact⟨j,l,n⟩
 |tup y=>cases f;obtain⟨a,Y,rfl,s,O⟩:=Z.tup h.ok;refine⟨true,a,rfl,⟨Y,s⟩,fun G H o x=>?_⟩;obtain⟨b,j,e,l,n⟩:=(Z.mono o).tup x;cases e;exact⟨j,l,n⟩
 |_=>cases f
 obtain⟨M,a,rfl,I,E⟩:=c L f;obtain⟨J,b,rfl,F,C⟩:=c N W;exact⟨M,J,a,b,rfl,rfl,I,F,q _ z B (k.trans h) (NY E C)⟩
end
end DL
namespace DL
open PySem PySem.Spec PyProof.Rows L2 PySem.W PySem.Calls
abbrev cC(h:Heap)(T:Addr)(a b c:Value):Prop:=h.get? T=some { cls:=.type "tuple",data:=.seq #[a,b,c] }
structure Z3(k l1 l2 l3:Nat)(i:Nat)(f0 f1:Value)(h:Heap):Prop where
 a:h.IsListIter k l1 i
 b:h.IsListIter (k+1) l2 i
 c:h.IsListIter (k+2) l3 i
 t:cC h (k+3) (.ref k) (.ref (k+1)) (.ref (k+2))
 z:h.get? (k+5)=some { cls:=.type "zip",dict:=none,data:=.fields #[f0,f1,.bool false,.ref (k+3),.ref (k+4)],slots:=#[] }
def Fz(k:Nat)(h h':Heap):Prop:=∀(b:Nat) o,(b<k\/b=k+3\/k+5<b)->h.get? b=some o->h'.get? b=some o
variable{prog:C_}{w:S_}{A:T_}{E:Value->c_->Prop}{s:c_}{i l1 l2 l3:Nat}{I1 I2 I3:Array Value}
section
variable{k T:Nat}{x y z p q r:Value}{b:Bool}{oT:Obj}
theorem nu(c:A.handled=none){u l:Nat}(U:l<u)(b:s.heap.IsListIter u l i)(a:s.heap.IsList l L)(Z:L[i]? = some v)(h:∀g Y,Zq u s.heap g->g.IsListIter u l (i+1)->Q v { s with heap:=g,toks:=Y }):p_ (u_ prog w) A (YB (.ref u)) Q E s:=(Qfc c u l (z_ U) L).item i s Q E (Y7.mp Z).1 ⟨b,a⟩ fun x g Y e d k=>by simp_all
theorem my{T:Addr}{a b c x:Value}(L:cC s.heap T a b c)(h:∀h',h'.get? T=some { cls:=.type "tuple",data:=.seq ((#[a,b,c]:Array Value).setIfInBounds k x) }->Zq T s.heap h'->Q () { s with heap:=h' }):p_ (u_ prog w) A (updateSeq T (·.setIfInBounds k x)) Q E s:=by refine Zr L rfl (h _ ?_ (ZZ ..));rw[YM _ L rfl];simp[Y6]
theorem RC{Q:Value->c_->Prop}(M:A.handled=none)(Z:Z3 k l1 l2 l3 0 .none (.bool false) s.heap)(ho:cC s.heap (k+4) p q r)(L1:s.heap.IsList l1 I1)(L2:s.heap.IsList l2 I2)(L3:s.heap.IsList l3 I3)(hl:l1<k/\l2<k/\l3<k)(e1:I1[0]? = some x)(e2:I2[0]? = some y)(e3:I3[0]? = some z)(hQ:∀h' tk,Z3 k l1 l2 l3 1 (â s.heap.objs.size) (.bool false) h'->cC h' s.heap.objs.size x y z->h'.objs.size=s.heap.objs.size+1->Fz k s.heap h'->Q (.ref s.heap.objs.size) { s with heap:=h',toks:=tk }):p_ (u_ prog w) A (Zf.«zip.__next__» ⟨[.ref (k+5)],[]⟩) (fun fin s'=>∃v,fin=.done (.ret v)/\Q v s') E s:=by
 have h:=Z.z;show p_ _ _ (Å (.ref (k+5)) 2 >>= _) _ _ _;refine Q_a (Q_ h rfl (x:=.bool false) rfl ?_);show p_ _ _ (Å (.ref (k+5)) 3 >>= _) _ _ _;refine Q_a (Q_ h rfl (x:=.ref (k+3)) rfl (Q_a (YC Z.t rfl ?_)));show p_ _ _ (YW (.ref (k+5)) >>= _) _ _ _;refine Q_a ?_;unfold YW;refine Q_a (Q_ h rfl (x:=.none) rfl (e_ ?_));simp only[Q_o];refine Q_a (ü (Q_a (Q_ h rfl (x:=.ref (k+4)) rfl (Q_a (YO h (by simp) fun g1 ST k1=>?_)))));have f1:=k1.extBut;refine Q_a ?_;simp only[Ţ,Ŧ,ZW,İ];refine Q_a (Q_a (Í ?_));show p_ _ _ (YB (.ref k) >>= _) _ _ _;refine Q_a (nu M hl.1 (Z.a.at fun o e=>f1 _ _ (show(k:Nat)≠k+5 by omega) e) (L1.at fun o e=>f1 _ _ (show(l1:Nat)≠k+5 by omega) e) e1 fun g2 t2 k2 a2=>e_ ?_);have f2:=k2.extBut;have i:cC g2 (k+4) p q r:=f2 _ _ (show(k+4:Nat)≠k by omega) (f1 _ _ (show(k+4:Nat)≠k+5 by omega) ho);refine Q_a (YC i rfl (Q_a (my i fun g3 O X=>?_)));have f3:=X.extBut;replace O:cC g3 (k+4) x q r:=O;refine Q_a (Z7 (e_ ?_));refine Q_a (Q_a (Í ?_));show p_ _ _ (YB (.ref (k+1)) >>= _) _ _ _;have H:∀(b:Nat) o,b≠k->b≠k+4->b≠k+5->s.heap.get? b=some o->g3.get? b=some o:=fun b o m l f e=>f3 _ _ l (f2 _ _ m (f1 _ _ f e));refine Q_a (nu (u:=k+1) M (by omega) (Z.b.at fun o e=>H _ _ (by omega) (by omega) (by omega) e) (L2.at fun o e=>H _ _ (by omega) (by omega) (by omega) e) e2 fun g4 t4 W a4=>e_ ?_);have f4:=W.extBut;have IO:cC g4 (k+4) x q r:=f4 _ _ (show(k+4:Nat)≠k+1 by omega) O;refine Q_a (YC IO rfl (Q_a (my IO fun g5 N T=>?_)));have F:=T.extBut;replace N:cC g5 (k+4) x y r:=N;refine Q_a (Z7 (e_ ?_));refine Q_a (Q_a (Í ?_));show p_ _ _ (YB (.ref (k+2)) >>= _) _ _ _;have P:∀(b:Nat) o,b≠k->b≠k+1->b≠k+4->b≠k+5->s.heap.get? b=some o->g5.get? b=some o:=fun b o m l f j e=>F _ _ f (f4 _ _ l (H b o m f j e));refine Q_a (nu (u:=k+2) M (by omega) (Z.c.at fun o e=>P _ _ (by omega) (by omega) (by omega) (by omega) e) (L3.at fun o e=>P _ _ (by omega) (by omega) (by omega) (by omega) e) e3 fun g6 t6 S a6=>e_ ?_);have C:=S.extBut;have KK:cC g6 (k+4) x y r:=C _ _ (show(k+4:Nat)≠k+2 by omega) N;refine Q_a (YC KK rfl (Q_a (my KK fun d U R=>?_)));have B:=R.extBut;replace U:cC d (k+4) x y z:=U;refine Q_a (Z7 (e_ (e_ ?_)));refine Q_a (YC U rfl (Q_a (ķ ?_)));have K:d.objs.size=s.heap.objs.size:=by rw[R.1,S.1,T.1,W.1,X.1,k2.1,k1.1]
 have G:∀(b:Nat) o,b≠k->b≠k+1->b≠k+2->b≠k+4->g1.get? b=some o->d.get? b=some o:=fun b o m l f j e=>B _ _ j (C _ _ f (F _ _ j (f4 _ _ l (f3 _ _ j (f2 _ _ m e)))));have LE:=G _ _ (by omega) (by omega) (by omega) (by omega) ST;have Y:k+5<d.objs.size:=o_ LE;show p_ _ _ (Z0 (.ref (k+5)) (.ref d.objs.size) >>= _) _ _ _;refine Q_a ?_;unfold Z0;refine Q_a (YO (a_ { cls:=.type "tuple",data:=.seq #[x,y,z] } LE) (by simp) fun g8 LT J=>?_);refine YO LT (by simp) fun n L I=>?_;have g:∀(c:Nat) o,c≠k+5->d.get? c=some o->n.get? c=some o:=fun c o c1 e=>I.extBut _ _ c1 (J.extBut _ _ c1 (a_ _ e));have Cl:cC n d.objs.size x y z:=I.extBut _ _ (YS Y) (J.extBut _ _ (YS Y) (i_ _ rfl));have Id:n.objs.size=d.objs.size+1:=by rw[I.1,J.1,H_]
 refine e_ ⟨_,rfl,?_⟩;show Q (.ref d.objs.size) _;have L:n.get? (k+5)=some { cls:=.type "zip",dict:=none,data:=.fields #[â d.objs.size,.bool false,.bool false,.ref (k+3),.ref (k+4)],slots:=#[] }:=L;rw[K]at L Cl Id ⊢;refine hQ n _ ⟨a2.at fun o e=>g _ _ (by omega) (B _ _ (show(k:Nat)≠k+4 by omega) (C _ _ (show(k:Nat)≠k+2 by omega) (F _ _ (show(k:Nat)≠k+4 by omega) (f4 _ _ (show(k:Nat)≠k+1 by omega) (f3 _ _ (show(k:Nat)≠k+4 by omega) e))))),a4.at fun o e=>g _ _ (by omega) (B _ _ (show(k+1:Nat)≠k+4 by omega) (C _ _ (show(k+1:Nat)≠k+2 by omega) (F _ _ (show(k+1:Nat)≠k+4 by omega) e))),a6.at fun o e=>g _ _ (by omega) (B _ _ (show(k+2:Nat)≠k+4 by omega) e),g _ _ (by omega) (G _ _ (by omega) (by omega) (by omega) (by omega) (f1 _ _ (show(k+3:Nat)≠k+5 by omega) Z.t)),L⟩ Cl Id fun b o hb e=>g _ _ (by omega) (G _ _ (by omega) (by omega) (by omega) (by omega) (f1 _ _ (show b≠k+5 by omega) e))
theorem Pr(hz:s.heap.get? (k+5)=some { cls:=.type "zip",dict:=none,data:=.fields #[â T,.bool b,.bool false,.ref (k+3),.ref (k+4)],slots:=#[] })(U:s.heap.get? T=some oT)(h:∀h',h'.get? (k+5)=some { cls:=.type "zip",dict:=none,data:=.fields #[â T,.bool true,.bool false,.ref (k+3),.ref (k+4)],slots:=#[] }->Zq (k+5) s.heap h'->Q false { s with heap:=h' }):p_ (u_ prog w) A (YW (.ref (k+5))) Q E s:=by refine Q_a (Q_ hz rfl rfl ?_);show p_ _ _ (loadIfAlive _ >>= _) _ _ _;refine Q_a (kdx_alive U ?_);refine Q_a (Q_ hz rfl rfl ?_);cases b with
|true=>exact e_ (h _ hz (Qes _ _))
|false=>exact Q_a (YO hz (by simp) fun g L k=>e_ (h g L k))
theorem Pt{Q:Value->c_->Prop}(m:A.handled=none)(Z:Z3 k l1 l2 l3 i (â T) (.bool b) s.heap)(hT:s.heap.get? T=some oT)(L1:s.heap.IsList l1 I1)(L2:s.heap.IsList l2 I2)(L3:s.heap.IsList l3 I3)(K:l1<k/\l2<k/\l3<k)(hQ:∀x y z,I1[i]? = some x->I2[i]? = some y->I3[i]? = some z->∀h' p,Z3 k l1 l2 l3 (i+1) (â T) (.bool true) h'->cC h' s.heap.objs.size x y z->h'.objs.size=s.heap.objs.size+1->Fz k s.heap h'->Q (.ref s.heap.objs.size) { s with heap:=h',toks:=p })(l:i=I1.size\/i<I1.size/\i<I2.size/\i<I3.size)(hE:i=I1.size->∀h' e p,Fz k s.heap h'->(∃o,h'.get? e=some o/\o.cls=.type "StopIteration")->E (.ref e) { s with heap:=h',toks:=p }):p_ (u_ prog w) A (Zf.«zip.__next__» ⟨[.ref (k+5)],[]⟩) (fun fin R=>∃v,fin=.done (.ret v)/\Q v R) E s:=by
 have q:=Z.z;show p_ _ _ (Å (.ref (k+5)) 2 >>= _) _ _ _;refine Q_a (Q_ q rfl (x:=.bool false) rfl ?_);show p_ _ _ (Å (.ref (k+5)) 3 >>= _) _ _ _;refine Q_a (Q_ q rfl (x:=.ref (k+3)) rfl (Q_a (YC Z.t rfl ?_)));show p_ _ _ (YW (.ref (k+5)) >>= _) _ _ _;refine Q_a (Pr q hT fun M U J=>?_);have f1:=J.extBut;simp only[YE,Q_n];refine Q_a ?_;rw[<-Qb6];simp only[ZW,İ];refine Q_a (Q_a (YH ?_));show p_ _ _ (YB (.ref k) >>= _) _ _ _;have F:M.IsListIter k l1 i:=Z.a.at fun o e=>f1 _ _ (show(k:Nat)≠k+5 by omega) e;have G:M.IsList l1 I1:=L1.at fun o e=>f1 _ _ (show(l1:Nat)≠k+5 by omega) e;rcases l with l|⟨X,W,S⟩
 .rw[l]at F;exact Q_a ((Qfc m k l1 (z_ K.1) I1).done _ _ _ ⟨F,G⟩ fun C e j he=>hE l C e _ (fun b o hb e=>j _ _ (show b≠k by omega) (f1 _ _ (show b≠k+5 by omega) e)) he)
 have P:I1[i]? = some I1[i]:=w_ X;have O:I2[i]? = some I2[i]:=w_ W;have N:I3[i]? = some I3[i]:=w_ S;refine Q_a (nu m K.1 F G P fun C t2 j a2=>e_ (e_ ?_));have f2:=j.extBut;refine Q_a (Q_a (YH ?_));show p_ _ _ (YB (.ref (k+1)) >>= _) _ _ _;have n:∀(b:Nat) o,b≠k->b≠k+5->s.heap.get? b=some o->C.get? b=some o:=fun b o B r e=>f2 _ _ B (f1 _ _ r e);refine Q_a (nu (u:=k+1) m (by omega) (Z.b.at fun o e=>n _ _ (by omega) (by omega) e) (L2.at fun o e=>n _ _ (by omega) (by omega) e) O fun g4 t4 I a4=>e_ (e_ ?_));have f4:=I.extBut;refine Q_a (Q_a (YH ?_));show p_ _ _ (YB (.ref (k+2)) >>= _) _ _ _;have h:∀(b:Nat) o,b≠k->b≠k+1->b≠k+5->s.heap.get? b=some o->g4.get? b=some o:=fun b o B h2 r e=>f4 _ _ h2 (n b o B r e);refine Q_a (nu (u:=k+2) m (by omega) (Z.c.at fun o e=>h _ _ (by omega) (by omega) (by omega) e) (L3.at fun o e=>h _ _ (by omega) (by omega) (by omega) e) N fun d t6 H a6=>e_ (e_ (e_ ?_)));have g:=H.extBut;have f:d.objs.size=s.heap.objs.size:=by rw[H.1,I.1,j.1,J.1]
 show p_ _ _ (newTuple [I1[i],I2[i],I3[i]] >>= _) _ _ _;refine Q_a (ķ ?_);have Y:∀(c:Nat) o,d.get? c=some o->(d.push { cls:=.type "tuple",data:=.seq #[I1[i],I2[i],I3[i]] }).get? c=some o:=fun c o e=>a_ _ e;refine e_ ⟨_,rfl,?_⟩;have L:cC (d.push { cls:=.type "tuple",data:=.seq #[I1[i],I2[i],I3[i]] }) d.objs.size I1[i] I2[i] I3[i]:=i_ _ rfl;show Q (.ref d.objs.size) _;rw[f]at L ⊢;refine hQ _ _ _ P O N _ _ ⟨a2.at fun o e=>Y _ _ (g _ _ (show(k:Nat)≠k+2 by omega) (f4 _ _ (show(k:Nat)≠k+1 by omega) e)),a4.at fun o e=>Y _ _ (g _ _ (show(k+1:Nat)≠k+2 by omega) e),a6.at fun o e=>Y _ _ e,Y _ _ (g _ _ (show(k+3:Nat)≠k+2 by omega) (h _ _ (by omega) (by omega) (by omega) Z.t)),Y _ _ (g _ _ (show(k+5:Nat)≠k+2 by omega) (f4 _ _ (show(k+5:Nat)≠k+1 by omega) (f2 _ _ (show(k+5:Nat)≠k by omega) U)))⟩ L (by rw[H_,f]) fun b o hb e=>Y _ _ (g _ _ (show b≠k+2 by omega) (h _ _ (by omega) (by omega) (by omega) e))
end
def ZL(k l1 l2 l3 i:Nat)(h:Heap):Prop:=(i=0/\Z3 k l1 l2 l3 0 .none (.bool false) h/\∃p q r,cC h (k+4) p q r)\/∃(T:Nat)(b:Bool)(oT:Obj),Z3 k l1 l2 l3 i (â T) (.bool b) h/\h.get? T=some oT/\k+6<T
theorem ZL.at(x:ZL k Y U L i h)(e:∀(b:Nat) o,b≠k+6->h.get? b=some o->h'.get? b=some o):ZL k Y U L i h':=by
 have z3:∀{d f1:Value}{i:Nat},Z3 k Y U L i d f1 h->Z3 k Y U L i d f1 h':=fun y=>by obtain⟨a,b,c,t,z⟩:=y;exact ⟨a.at fun o q=>e _ o (by omega) q,b.at fun o q=>e _ o (by omega) q,c.at fun o q=>e _ o (by omega) q,e _ _ (by omega) t,e _ _ (by omega) z⟩
 rcases x with⟨m,Z,p,q,r,g⟩|⟨T,b,f,Z,l,j⟩
 .exact .inl ⟨m,z3 Z,p,q,r,e _ _ (by omega) g⟩
 .exact .inr ⟨T,b,f,z3 Z,e _ _ (by omega) l,j⟩
section
variable{k:Nat}
theorem zn(J:A.handled=none)(st:ZL k l1 l2 l3 i s.heap)(C:s.heap.IsList l1 I1)(B:s.heap.IsList l2 I2)(v:s.heap.IsList l3 I3)(n:l1<k/\l2<k/\l3<k)(N:k+6<s.heap.objs.size)(m:i=I1.size/\0<i\/i<I1.size/\i<I2.size/\i<I3.size)(u:∀x y z,I1[i]? = some x->I2[i]? = some y->I3[i]? = some z->∀h' a,ZL k l1 l2 l3 (i+1) h'->cC h' s.heap.objs.size x y z->h'.objs.size=s.heap.objs.size+1->Fz k s.heap h'->Q (some (.ref s.heap.objs.size)) { s with heap:=h',toks:=a })(O:i=I1.size->∀h' a,Fz k s.heap h'->Q none { s with heap:=h',toks:=a }):p_ (u_ prog w) A (å (.ref (k+5))) Q E s:=by
 have Y:A.in1.handled=none:=by simp[J]
 have U:s.TypeIs (.ref (k+5)) "zip" := by rcases st with⟨_,Z,_⟩|⟨_,_,_,Z,_⟩ <;> exact⟨_,Z.z,rfl⟩
 unfold å;refine Q_a (Î (YX (name:=YT "__next__") U F.slot_zip_next (Y0 F.slot_zip_next U F.entry_zip_next ?_ (F.args_zip_next_1 _))));rcases st with⟨rfl,Z,p,q,r,j⟩|⟨T,b,G,Z,t,H⟩
 .obtain⟨n1,n2,n3⟩:=m.resolve_left fun z=>YY _ z.2;have g:I1[0]? = some I1[0]:=w_ n1;have f:I2[0]? = some I2[0]:=w_ n2;have d:I3[0]? = some I3[0]:=w_ n3;exact RC Y Z j C B v n g f d fun h' a l L h c=>e_ (u _ _ _ g f d h' a (.inr ⟨_,_,_,l,L,N⟩) L h c)
 .refine Pt Y Z t C B v n (fun x y z g f d h' a l L h c=>e_ (u x y z g f d h' a (.inr ⟨T,true,G,l,c _ _ (.inr (.inr (by omega))) t,H⟩) L h c)) (m.imp (·.1) id) fun I h' e a c K=>?_;obtain⟨o,j,M⟩:=K;exact Q_a (Ġ (T := "StopIteration") (b:=true) ⟨o,j,M⟩ Ŷ (e_ (O I h' _ c)))
structure Tol(k:Nat)(I1 I2 I3:Array Value)(h:Heap)(as:List Nat):Prop where
 rise:as.Pairwise (· < ·)
 above:∀a∈as,k+6<a
 told:∀(j:Nat)(a:Nat),as[j]? = some a->∃x y z,I1[j]? = some x/\I2[j]? = some y/\I3[j]? = some z/\cC h a x y z
theorem Tol.at(x:Tol k I1 I2 I3 h U)(e:∀(b:Nat) o,k+6<b->h.get? b=some o->h'.get? b=some o):Tol k I1 I2 I3 h' U:=⟨x.rise,x.above,fun j a L=>let⟨p,q,r,d,c,Z,Y⟩:=x.told j a L;⟨p,q,r,d,c,Z,e a _ (x.above a (YV L)) Y⟩⟩
theorem Ph(Q:A.handled=none)(n:l1<k/\l2<k/\l3<k)(hn:0<I1.size/\I1.size<=I2.size/\I1.size<=I3.size)(KK:I1.size<=sizeLine)(J:Value){f:Heap}(LL:f.IsList l1 I1/\f.IsList l2 I2/\f.IsList l3 I3)(S:∀h' r d c l,(∀(b:Nat) o,b<k->f.get? b=some o->h'.get? b=some o)->h'.get? (k+6)=some { cls:=.type "list",dict:=none,data:=.seq d c,slots:=#[] }->l.length=I1.size->Tol k I1 I2 I3 h' l->d.toList=l.map Value.ref->R (.ok (.ret J)) { s with heap:=h',toks:=r }):∀(m i:Nat)(h:Heap)(r c:Nat)(d:Array Value)(l:List Nat),i+m=I1.size->ZL k l1 l2 l3 i h->(∀(b:Nat) o,b<k->f.get? b=some o->h.get? b=some o) ->h.get? (k+6)=some { cls:=.type "list",dict:=none,data:=.seq d c,slots:=#[] }->d.toList=l.map Value.ref->l.length=i->Tol k I1 I2 I3 h l ->Z1 (u_ prog w) A (.builtin "list.extend.loop" ⟨[.ref (k+6),.ref (k+5),J],[]⟩) R { s with heap:=h,toks:=r }:=by
 have K:A.in1.handled=none:=by simp[Q]
 intro m
 induction m with
|zero=>intro i h r c d l P Z L E U Y v;refine Y5 Qcj ?_;rw[Zw Zk _];show p_ _ A.in1 (å (.ref (k+5)) >>= _) _ _ _;refine Q_a (zn (s:={ s with heap:=h,toks:=r }) K Z (LL.1.at fun o e=>L _ o n.1 e) (LL.2.1.at fun o e=>L _ o n.2.1 e) (LL.2.2.at fun o e=>L _ o n.2.2 e) n (o_ E) (.inl ⟨by omega,by omega⟩) (fun x y z H=>by have:=(Y7.mp H).1;omega) fun _ h' q p=>?_);exact e_ (S h' q d c l (fun b o g e=>p b o (.inl g) (L b o g e)) (p _ _ (.inr (.inr (by omega))) E) (by omega) (v.at fun b o g e=>p b o (.inr (.inr (by omega))) e) U)
|succ m N=>
  intro i h r c d l P Z L E U Y v;have B:d.size=i:=by rw[<-YR,U,b_,Y]
  have M:k+6<h.objs.size:=o_ E;refine Y5 Qcj ?_;rw[Zw Zk _];show p_ _ A.in1 (å (.ref (k+5)) >>= _) _ _ _;refine Q_a (zn (s:={ s with heap:=h,toks:=r }) K Z (LL.1.at fun o e=>L _ o n.1 e) (LL.2.1.at fun o e=>L _ o n.2.1 e) (LL.2.2.at fun o e=>L _ o n.2.2 e) n M (.inr ⟨by omega,by omega,by omega⟩) (fun x y z H W T h' q X I O p=>?_) fun z=>Q_g z (by omega))
  dsimp only at I O p ⊢
  have C:=p _ _ (.inr (.inr (show k+5<k+6 by omega))) E;have F:∀(b:Nat) o,b≠k+6->h'.get? b=some o->(h'.update (k+6) (Y6 (·.push (Value.ref h.objs.size)))).get? b=some o:=fun b o g e=>(U_ _ _ (ZM g)).trans e;show p_ _ A.in1 (updateSeq (k+6) (·.push (Value.ref h.objs.size)) >>= _) _ _ _;refine Q_a ?_;refine Zr C rfl (e_ ⟨Zx Zk _,N (i+1) _ q _ (d.push (Value.ref h.objs.size)) (l++[h.objs.size]) (by omega) (X.at F) (fun b o g e=>F b o (by omega) (p b o (.inl g) (L b o g e)))
   (YM _ C rfl) (by rw[Qcp,U,M_];rfl) (by rw[D_,Y];rfl) ⟨?_,?_,?_⟩⟩) (by rw[B];omega) (by show(d.push (Value.ref h.objs.size)).size<=sizeLine+1;rw[Array.size_push,B];omega)
  .refine QdE.mpr ⟨v.rise,List.pairwise_singleton _ _,fun a u b g=>?_⟩;rw[YA.mp g];obtain⟨j,t⟩:=List.mem_iff_getElem?.mp u;obtain⟨_,_,_,_,_,_,e⟩:=v.told j a t;exact o_ e
  .intro a u;rcases ZH.mp u with u|u
   .exact v.above a u
   .rw[YA.mp u];exact M
  .intro j b t;have IO:=v.at (h':=h'.update (k+6) (Y6 (·.push (Value.ref h.objs.size)))) fun b o g e=>F b o (by omega) (p b o (.inr (.inr (by omega))) e);rcases Nat.lt_trichotomy j l.length with G|G|G
   .rw[Yw G]at t;exact IO.told j b t
   .subst G;have g:h.objs.size=b:=by simpa using t
    subst g;rw[Y];exact⟨x,y,z,H,W,T,F _ _ (by omega) I⟩
   .have hnone:(l++[h.objs.size])[j]? = none:=Zn (by rw[D_,Yz];assumption);rw[hnone]at t;cases t
theorem SV:Ā (.type "zip") "__len__" = pure none:=by rw[ų,ũ];kernel_rfl
theorem TC:Ā (.type "zip") "__length_hint__" = pure none:=by rw[ų,ũ];kernel_rfl
theorem RW(y:A.handled=none)(v:l1<k/\l2<k/\l3<k)(u:0<I1.size/\I1.size<=I2.size/\I1.size<=I3.size)(K:I1.size<=sizeLine)(L:Value)(I:Nat)(LL:s.heap.IsList l1 I1/\s.heap.IsList l2 I2/\s.heap.IsList l3 I3)(hz:Z3 k l1 l2 l3 0 .none (.bool false) s.heap)(t:cC s.heap (k+4) .none .none .none)(q:s.heap.get? (k+6)=some { cls:=.type "list",data:=.seq #[] I })(C:∀h' d g c n,(∀(b:Nat) o,b<k->s.heap.get? b=some o->h'.get? b=some o)->h'.get? (k+6)=some { cls:=.type "list",dict:=none,data:=.seq g c,slots:=#[] }->n.length=I1.size->Tol k I1 I2 I3 h' n->g.toList=n.map Value.ref->R (.ok (.ret L)) { s with heap:=h',toks:=d }) :
  p_ (u_ prog w) A.in1 (YZ (.ref (k+6)) (.ref (k+5)) L)
   (fun fin i=>match fin with|.done f=>R (.ok f) i|.again r=>r.quiet=true/\Z1 (u_ prog w) A r R i) (fun e i=>R (.error e) i) s:=by
 have l:∀(h:Heap)(Z d:Nat),(∀(b:Nat) o,b≠k+6->s.heap.get? b=some o->h.get? b=some o)->h.get? (k+6)=some { cls:=.type "list",data:=.seq #[] Z } ->Z1 (u_ prog w) A _ R { s with heap:=h,toks:=d }:=fun h Z d p J=>Ph (s:=s) y v u K L LL C I1.size 0 h d Z #[] [] (Zs _) (ZL.at (.inl ⟨rfl,hz,_,_,_,t⟩) p) (fun b o m e=>p b o (by omega) e) J rfl rfl ⟨List.Pairwise.nil,(fun _ B=>nomatch B),(fun j a x=>by simp at x)⟩;have U:s.TypeIs (.ref (k+5)) "zip" := ⟨_,hz.z,rfl⟩
 unfold YZ;refine Q_a (ZN (T := "zip") U ?_);have G:Ő (.ref (k+6)) (.ref (k+5))=false:=by simp[Ő]
 have F:(Value.type "zip" == Value.type "list")=false:=by decide
 have E:(Value.type "zip" == Value.type "tuple")=false:=by decide
 simp only[G,F,E,Qfx,YE,Q_n];refine Q_a (Ů hz.z ?_);refine Q_a (YH ?_);unfold QaJ;refine Q_a (ZX U SV ?_);refine Q_a (ZX U TC (e_ ?_));refine Q_a (ü ?_);refine Q_a ?_;refine Q_a (Zr q rfl ?_);have Y:=YM (Y6 (·.push Value.none)) q rfl;refine Zr (hz:=by seq_fits) Y rfl ?_;have H:=YM (Y6 (·.pop)) Y rfl;refine e_ ⟨Zx Zk _,l _ _ _ (fun b o m e=>?_) H⟩;exact(U_ _ _ (ZM m)).trans ((U_ _ _ (ZM m)).trans e)
theorem Pf(v:A.handled=none)(m:s.heap.objs.size=k+6)(r:l1<k/\l2<k/\l3<k)(q:0<I1.size/\I1.size<=I2.size/\I1.size<=I3.size)(U:I1.size<=sizeLine)(LL:s.heap.IsList l1 I1/\s.heap.IsList l2 I2/\s.heap.IsList l3 I3)(hz:Z3 k l1 l2 l3 0 .none (.bool false) s.heap)(p:cC s.heap (k+4) .none .none .none)(y:∀h' n g c l,(∀(b:Nat) o,b<k->s.heap.get? b=some o->h'.get? b=some o)->h'.get? (k+6)=some { cls:=.type "list",dict:=none,data:=.seq g c,slots:=#[] }->l.length=I1.size->Tol k I1 I2 I3 h' l->g.toList=l.map Value.ref->Q (.ref (k+6)) { s with heap:=h',toks:=n }):p_ (u_ prog w) A (call (.type "list") [.ref (k+5)]) Q E s:=by
 refine callType_codes (Q₁:=fun h f=>h=.ref (k+6)/\f={ s with heap:=s.heap.push { cls:=.type "list",data:=.seq #[] } }) PySem.F.called_list (PySem.F.typeCall_list_1 _) PySem.F.entry_list_init
  (code_list_new _ ⟨by rw[m],rfl⟩) fun h f i=>?_
 obtain⟨rfl,rfl⟩:=i;have j:(s.heap.push { cls:=.type "list",data:=.seq #[] }).get? (k+6)=some { cls:=.type "list",data:=.seq #[] }:=by rw[<-m];exact i_ _ rfl
 refine⟨⟨_,j,rfl⟩,PySem.F.args_list_init_2 _ _,?_⟩;refine Q_a ?_;unfold Builtin.List.listItems;refine Q_a (YC j rfl (e_ ?_));refine Q_a (Zr j rfl ?_);have L:=YM (Y6 (fun _=>(#[]:Array Value))) j rfl;have d:∀{b:Nat} {o},s.heap.get? b=some o->((s.heap.push { cls:=.type "list",data:=.seq #[] }).update (k+6) (Y6 (fun _=>(#[]:Array Value)))).get? b=some o:=fun{b o} e=>(U_ _ _ (YS (show b<k+6 by rw[<-m];exact o_ e))).trans (a_ _ e);refine Q_a (Z7 ?_);refine RW (A:=A.in1) (by simp[v]) r q U .none _ ⟨LL.1.at fun o e=>d e,LL.2.1.at fun o e=>d e,LL.2.2.at fun o e=>d e⟩ ⟨hz.a.at fun o e=>d e,hz.b.at fun o e=>d e,hz.c.at fun o e=>d e,d hz.t,d hz.z⟩ (d p) L fun h' n g c l u x Z B Y=>?_;exact⟨rfl,by grind⟩
theorem UJ(a b c:Value):checkTypeCall "zip" ⟨[a,b,c],[]⟩=pure ():=by kernel_rfl
theorem UF(a b c:Value):checkBuiltinCall "zip.__new__" ⟨[.type "zip",a,b,c],[]⟩=pure ():=by kernel_rfl
theorem Va(a b c d:Value):argsOk "object.__init__" ⟨[a,b,c,d],[]⟩:=by kernel_rfl
abbrev pq(h:Heap)(l1 l2 l3:Addr):Heap:=((h.push (dP "list_iterator" l1)).push (dP "list_iterator" l2)).push (dP "list_iterator" l3)
abbrev sX(h:Heap)(l1 l2 l3:Addr):Heap:=(pq h l1 l2 l3).push { cls:=.type "tuple",data:=.seq #[.ref h.objs.size,.ref (h.push (dP "list_iterator" l1)).objs.size,.ref ((h.push (dP "list_iterator" l1)).push (dP "list_iterator" l2)).objs.size] }
abbrev sV(h:Heap)(l1 l2 l3:Addr):Heap:=(sX h l1 l2 l3).push { cls:=.type "tuple",data:=.seq #[.none,.none,.none] }
abbrev pj(h:Heap)(l1 l2 l3:Addr):Heap:=(sV h l1 l2 l3).push { cls:=.type "zip",data:=.fields #[.none,.bool false,.bool false,.ref (pq h l1 l2 l3).objs.size,.ref (sX h l1 l2 l3).objs.size] }
set_option maxHeartbeats 4000000 in
theorem Q1(L U Y:Addr)(xs f e:Array Value):ë (Zf.«zip.__new__» ⟨[.type "zip",.ref L,.ref U,.ref Y],[]⟩) (fun _ R s=>s.heap.IsList L xs/\s.heap.IsList U f/\s.heap.IsList Y e /\R (.ok (.ret (.ref (sV s.heap L U Y).objs.size))) { s with heap:=pj s.heap L U Y }):=
 .of_wp fun g w A R s h=>by
  obtain⟨b,c,d,Z,a⟩:=s;obtain⟨q1,k,j,h⟩:=h;have i:=sub_zip;have n:ś (Ē ⟨b,c,d,Z,a⟩) L xs:=q1;have m:ś (Ē ⟨b.push (dP "list_iterator" L),c,d,Z,a⟩) U f:=QcN k _;have l:ś (Ē ⟨(b.push (dP "list_iterator" L)).push (dP "list_iterator" U),c,d,Z,a⟩) Y e:=QcN (QcN j _) _
  wp_walk using Þ n,Þ m,Þ l
  exact⟨_,rfl,h⟩
theorem Vt(LL:s.heap.IsList l1 I1/\s.heap.IsList l2 I2/\s.heap.IsList l3 I3)(h:∀h',h'.objs.size=s.heap.objs.size+6->Z3 s.heap.objs.size l1 l2 l3 0 .none (.bool false) h'->cC h' (s.heap.objs.size+4) .none .none .none->(∀c o,s.heap.get? c=some o->h'.get? c=some o)->Q (.ref (s.heap.objs.size+5)) { s with heap:=h' }):p_ (u_ prog w) A (call (.type "zip") [.ref l1,.ref l2,.ref l3]) Q E s:=by
 refine ġ F.called_zip (by decide) (UJ _ _ _) (UF _ _ _) (fun Z=>Va Z _ _ _) F.entry_zip_new (Q1 l1 l2 l3 I1 I2 I3) ⟨LL.1,LL.2.1,LL.2.2,?_⟩;have Y:(pq s.heap l1 l2 l3).objs.size=s.heap.objs.size+3:=by simp_all
 have z3:(sX s.heap l1 l2 l3).objs.size=s.heap.objs.size+4:=by rw[H_,Y]
 have U:(sV s.heap l1 l2 l3).objs.size=s.heap.objs.size+5:=by rw[H_,z3]
 have a:(pj s.heap l1 l2 l3).get? (sV s.heap l1 l2 l3).objs.size=some _:=i_ _ rfl;have d:(pj s.heap l1 l2 l3).get? (sX s.heap l1 l2 l3).objs.size=some _:=a_ _ (i_ _ rfl);have f:(pj s.heap l1 l2 l3).get? (pq s.heap l1 l2 l3).objs.size=some _:=a_ _ (a_ _ (i_ _ rfl));have L:∀{b:Addr}{o:Obj},(pq s.heap l1 l2 l3).get? b=some o->(pj s.heap l1 l2 l3).get? b=some o:=fun e=>a_ _ (a_ _ (a_ _ e));have g:=L (i_ _ (o:=dP "list_iterator" l3) rfl);have i:=L (a_ (dP "list_iterator" l3) (i_ (s.heap.push (dP "list_iterator" l1)) (o:=dP "list_iterator" l2) rfl));have j:=L (a_ (dP "list_iterator" l3) (a_ (dP "list_iterator" l2) (i_ s.heap (o:=dP "list_iterator" l1) rfl)));rw[H_]at i;rw[H_,H_]at g;rw[Y,z3,U]at a;rw[Y,H_,H_,H_]at f;rw[z3]at d;rw[U];exact⟨⟨_,a,rfl⟩,h _ (by rw[H_,U]) ⟨⟨_,j,rfl,rfl⟩,⟨_,i,rfl,rfl⟩,⟨_,g,rfl,rfl⟩,f,a⟩ d fun c o x=>L (a_ _ (a_ _ (a_ _ x)))⟩
end
def gw(H:Hp):List Addr->List (List V)->Hp
|a::as,p::ps=>gw (aO H a (.tup p)) as ps
|_,_=>H
theorem o7:∀{L:List Addr}{ps:List (List V)}{H:Hp}{b:Addr},b∉L->gw H L ps b=H b
|[],_,_,_,_=>by cases ‹List _› <;> rfl
|a::L,[],_,_,_=>rfl
|a::L,p::ps,H,b,h=>by show gw _ L ps b=_;rw[o7 fun z=>h (k_ _ z),bN fun z=>h (by simp_all)]
theorem GL:∀{U:List Addr}{ps:List (List V)}{H:Hp}{b:Addr}{u:HO},U.Nodup->U.length=ps.length->b∈U->gw H U ps b=some u->∃(j:Nat)(p:List V),U[j]? = some b/\ps[j]? = some p/\u=.tup p
|[],_,_,_,_,_,_,h,_=>nomatch h
|a::U,[],_,_,_,_,Y,_,_=>nomatch Y
|a::U,p::ps,H,b,u,Z,Y,c,e=>by
  have L:=ZV.mp Z;have e:gw _ U ps b=some u:=e;by_cases z:b=a
  .subst z;rw[o7 L.1,bV]at e;cases e;exact⟨0,p,rfl,rfl,rfl⟩
  .obtain⟨j,q,h1,h2,h3⟩:=GL L.2 (Qet Y) ((s_.mp c).resolve_left z) e;exact⟨j+1,q,h1,h2,h3⟩
theorem IP{K:W.Frag}:∀{U:List Addr}{ps:List (List V)}{ds:List (List D)}{G:GH}{H:Hp},bi K G H->ps.length=ds.length->(∀(j:Nat) p d,ps[j]? = some p->ds[j]? = some d->bJ K G p d)->U.length=ps.length->(∀a∈U,H a=none)->U.Nodup ->∃c,Grow K G H c (gw H U ps)/\bJ K c (U.map V.ref) (ds.map D.tup)
|[],[],ds,G,H,Z,Y,_,_,_,_=>by cases ds with
 |nil=>exact⟨G,Grow.refl Z,.nil⟩
 |cons _ _=>cases Y
|a::U,p::ps,[],G,H,Z,Y,_,_,_,_=>nomatch Y
|a::U,p::ps,d::ds,G,H,Z,Y,f,m,k,i=>by have L:=ZV.mp i;have w:=Grow.newF Z (k a m_) (.tup (.inl bV) (f 0 p d rfl rfl));obtain⟨c,e,g⟩:=IP w.ok (Qet Y) (fun j h q o n=>bJ.mono (f (j+1) h q o n) w.ge) (Qet m) (fun b l=>by rw[bN fun z=>L.1 (by rw[<-z];exact l)];grind) L.2;exact⟨c,w.trans e,.cons ((RG.ref ga).mono e.ge) g⟩
theorem Inv.more{σ:L2.St}{t':Nat}(I:Inv X pz σ H s)(k:∀b u,s.heap.get? b=some u->h'.get? b=some u)(U:∀b u,H b=some u->Y b=some u)(Z:∀b u,H b=none->Y b=some u->s.heap.objs.size<=b/\df X.prog X.w Y h' b u):Inv X pz σ Y { s with heap:=h',toks:=t' }:=by
 refine I.step (g':=s.gens) (d':=s.drawn) (ch:=[]) (fun b g=>Q_g g (by simp)) (fun b L _ _ _ e _=>k b L e) (fun b L _ _ _ e _=>⟨L.slots,k b L e⟩) (fun b L _ e n=>?_) (fun b L _ e=>⟨L,k b L e⟩) (fun b a e=>U b _ e) (fun b L u e=>U b _ e)
  (fun b h e=>⟨#[],by rw[U b _ e];simp⟩) (fun m f=>?_) (fun b u e=>?_) I.bare
 .cases q:Y b with
 |none=>rfl
 |some u=>exact Q_g (Z b u n q).1 (Nat.not_le.mpr (o_ e))
 .obtain⟨L,es,ep,ho,r⟩:=f;exact⟨L,es,ep,k _ L ho,r⟩
 .cases q:H b with
 |some d=>have:=U b d q;rw[this]at e;cases e;exact(I.hok b u q).stay (fun c v _ q=>k c v q) (fun c q=>U c _ q) fun c a q=>U c _ q
 |none=>exact(Z b u q e).2
def z3{α:Type}:List α->List α->List α->List (List α)
|x::xs,y::ys,z::zs=>[x,y,z]::z3 xs ys zs
|_,_,_=>[]
theorem nk:∀{xs U L:List Y},xs.length<=U.length->xs.length<=L.length->(z3 xs U L).length=xs.length
|[],_,_,_,_=>rfl
|x::xs,y::U,z::L,a,Z=>Q_h _ (nk (Qbq a) (Qbq Z))
theorem rV:∀{xs U L:List Y}{j:Nat}{p:List Y},(z3 xs U L)[j]? = some p->∃x y z,xs[j]? = some x/\U[j]? = some y/\L[j]? = some z/\p=[x,y,z]
|x::xs,y::U,z::L,0,p,h=>by cases h;exact⟨x,y,z,rfl,rfl,rfl,rfl⟩
|x::xs,y::U,z::L,j+1,p,h=>rV (xs:=xs) h
|[],_,_,_,_,h=>by cases h
|_::_,[],_,_,_,h=>by cases h
|_::_,_::_,[],_,_,h=>by cases h
def Vd(K:W.Frag):List V->Hp->VK->Prop:=fun vs H Q=>∃(a b c:Addr)(xs ys zs:List V),vs=[.ref a,.ref b,.ref c]/\bp K H a xs/\bp K H b ys/\bp K H c zs/\0<xs.length/\xs.length<=ys.length/\xs.length<=zs.length /\∀(l:Addr)(as:List Addr),H l=none->as.Nodup->(∀a∈as,H a=none/\a≠l)->as.length=xs.length->Q (.ref l) (aO (gw H as (z3 xs ys zs)) l (.lst (as.map V.ref)))
section
variable{X:Cx}{g:GE}{m:List Md}{e1 e2 e3:Expr}{t:TA}{fl:am->Res (List D)}{pos p pos2 p2:Pos}
theorem Nr(hc:X.calm=true)(V6:Gl X "list")(Tm:X.mg "list" = none)(hg:Gl X "zip")(hm:X.mg "zip" = none)(ha:PA X [e1,e2,e3] t)(hs:f_ [e1,e2,e3] X.env=(false,eval e1 X.env)::f_ [e2,e3] X.env:=by rfl)(A:(backTo pos2 (f_ [e2,e3] X.env)).any (·.1)=false:=by rfl)(T:f_ [.Call (.Name "zip" p2) [e1,e2,e3] [] pos2] X.env=(false,eval (.Call (.Name "zip" p2) [e1,e2,e3] [] pos2) X.env)::f_ [] X.env:=by rfl):PE X (.Call (.Name "list" p) [.Call (.Name "zip" p2) [e1,e2,e3] [] pos2] [] pos) (lH (Vd X.K) t):=by intro pz s W H Q I h;refine Y3 (iq I V6 Tm rfl ?_ (by decide) (by decide));refine YD ?_ T rfl;rw[T];refine Ŕ ?_;refine Y3 (iq I hg hm boot_zip ?_ (by decide) (by decide));refine YD (aW (ha pos2 pz s W H _ I h) fun us k p=>?_) hs A;obtain⟨vs,S,I1,r1,q1⟩:=p;obtain⟨a,b,c,xs,ys,zs,rfl,y1,y2,y3,h0,LT,LE,q⟩:=q1;cases r1 with
|@cons _ u _ us rx rt=>cases rt with
|@cons _ u' _ us' ry V8=>cases V8 with
|@cons _ u3 _ us3 rz r=>
 cases r;cases rx;cases ry;cases rz;obtain⟨IO,Y,V7,Wa⟩:=I1.list y1;obtain⟨KK,U,ST,Wc⟩:=I1.list y2;obtain⟨Id,R,Ty,Wb⟩:=I1.list y3;have k1:=Y.length;have k2:=U.length;have k3:=R.length;have v:∀{a:Addr}{w:Array Value},k.heap.IsList a w->a<k.heap.objs.size:=fun⟨o,ho,_⟩=>o_ ho;have LL:=And.intro V7.isList (And.intro ST.isList Ty.isList);refine Vt LL fun h' sz Z hp m=>?_;show p_ _ _ (spliced []) _ _ _;refine ŕ ?_;refine Pf (s:={ k with heap:=h' }) (I1:=IO.toArray) (I2:=KK.toArray) (I3:=Id.toArray) (I1.ok.hd hc) sz ⟨v LL.1,v LL.2.1,v LL.2.2⟩ (by grind) (by grind) ⟨LL.1.at fun o e=>m _ o e,LL.2.1.at fun o e=>m _ o e,LL.2.2.at fun o e=>m _ o e⟩ Z hp fun h2 tk G c i B O hl f Cl=>?_
 dsimp only at B O f
 rw[A_]at hl;generalize hN:k.heap.objs.size=N at B O f;have g:∀x∈i,S x=none/\x≠N+6:=fun x M=>⟨I1.hok.fresh (by rw[hN];have:=f.above x M;grind),YS (f.above x M)⟩
 have J:i.Nodup:=f.rise.imp fun h=>z_ h;have L:S (N+6)=none:=I1.hok.fresh (by grind);have V9:i.length=(z3 xs ys zs).length:=by rw[nk LT LE];omega
 refine⟨.ref (N+6),_,Inv.more (s:=k) (h':=h2) (t':=tk) I1 (fun b u e=>B b u (by rw[<-hN];exact o_ e) (m b u e)) (fun b u e=>?_) (fun b u n e=>?_),rfl,q _ i L J g (by omega)⟩
 .rw[bN (ko e L),o7 fun z=>by grind];exact e
 .by_cases hb:b=N+6
  .subst hb;rw[bV]at e;cases e;refine⟨by grind,by grind,G.toList,c,?_,by omega⟩;rw[Cl];have:∀l:List Addr,ar (l.map V.ref) (l.map Value.ref):=fun l=>by induction l with
   |nil=>exact .nil
   |cons a l ih=>exact .cons rfl ih
   exact this i
  .rw[bN hb]at e;by_cases d:b∈i
   .obtain⟨j,pr,j1,j2,rfl⟩:=GL J V9 d e;refine⟨by rw[hN];exact ņ (Zt (Ħ N 6) (f.above b d)),?_⟩;obtain⟨x,y,z,F,E,C,P⟩:=f.told j b j1;obtain⟨vx,vy,vz,d1,d2,d3,rfl⟩:=rV j2;rw[ŝ]at F E C;obtain⟨u1,e1,e2⟩:=Y.get d1;obtain⟨u2,e3,e4⟩:=U.get d2;obtain⟨u3,e5,e6⟩:=R.get d3;rw[e1]at F;cases F;rw[e3]at E;cases E;rw[e5]at C;cases C;exact⟨by show 3<=sizeLine;decide,[_,_,_],.cons e2 (.cons e4 (.cons e6 .nil)),⟨_,P,rfl,0,rfl⟩,_,P,rfl⟩
   .rw[o7 d,n]at e;cases e
def lz3D:List D->Option D
|[.lst ds,.lst es,.lst fs]=>if 0<ds.length/\ds.length<=es.length/\ds.length<=fs.length then some (.lst ((z3 ds es fs).map D.tup))else none
|_=>none
theorem Vy(K:X.calm=true)(BT:Gl X "list")(ac:X.mg "list" = none)(J:Gl X "zip")(I:X.mg "zip" = none)(M:fF X g m [e1,e2,e3] fl)(hs:f_ [e1,e2,e3] X.env=(false,eval e1 X.env)::f_ [e2,e3] X.env:=by rfl)(o:(backTo pos2 (f_ [e2,e3] X.env)).any (·.1)=false:=by rfl)(Cl:f_ [.Call (.Name "zip" p2) [e1,e2,e3] [] pos2] X.env=(false,eval (.Call (.Name "zip" p2) [e1,e2,e3] [] pos2) X.env)::f_ [] X.env:=by rfl):SO X g m (.Call (.Name "list" p) [.Call (.Name "zip" p2) [e1,e2,e3] [] pos2] [] pos) (fC fl lz3D):=by
 refine rA ?_ (Nr K BT ac J I M hs o Cl);intro G H vs ds d Q k E e q;unfold lz3D at e;split at e
 .rename_i xs ys zs;split at e
  .cases e;cases E with
  |cons i t=>cases t with
  |cons h t=>cases t with
  |cons f t=>
   cases t;obtain⟨a,Y,rfl,C,i⟩:=i.lst k;obtain⟨b,U,rfl,B,h⟩:=h.lst k;obtain⟨c,L,rfl,s3,f⟩:=f.lst k;have k1:=Paired.length i;have k2:=Paired.length h;have k3:=Paired.length f;refine⟨a,b,c,Y,U,L,rfl,C,B,s3,by omega,by omega,by omega,fun l as u F N s=>?_⟩;obtain⟨G3,n,r⟩:=IP (ps:=z3 Y U L) (ds:=z3 xs ys zs) k (by rw[nk (by omega) (by omega),nk (by omega) (by omega)];omega) (fun j p d e1 e2=>by obtain⟨x,y,z,a1,a2,a3,rfl⟩:=rV e1;obtain⟨x',y',z',W,T,S,rfl⟩:=rV e2;obtain⟨v1,A,R⟩:=DL.Paired.get i W;obtain⟨v2,w,P⟩:=DL.Paired.get h T;obtain⟨v3,v,O⟩:=DL.Paired.get f S;rw[a1]at A;cases A;rw[a2]at w;cases w;rw[a3]at v;cases v;exact .cons R (.cons P (.cons O .nil))) (by rw[nk (by omega) (by omega)];omega) (by grind) F;have Z:gw H as (z3 Y U L) l=none:=by rw[o7 fun z=>(N l z).2 rfl];exact u
   exact q l G3 _ (n.trans (Grow.new n.ok Z _)) u ⟨n.ok.isN Z,.lst bV r⟩
  .cases e
 .cases e
end
end DL
namespace DL
open PySem PySem.Spec PyProof.Rows L2
def kN(ks:List Int):Int:=ks.getD (ZJ (fun i j=>decide (ks.getD i 0>ks.getD j 0)) (ks.length-1)) 0
theorem JN(f:Nat->Int):∀k,ZJ (fun i j=>decide (f i>f j)) k<=k/\∀i,i<=k->f i<=f (ZJ (fun i j=>decide (f i>f j)) k)
|0=>⟨q_ _,fun i L=>by
   have:i=0:=by omega
   subst this;exact Int.le_refl _⟩
|k+1=>by
  obtain⟨Y,U⟩:=JN f k;rw[QfG]
  grind
theorem OS(h:x∈ks):x<=kN ks:=by
 obtain⟨i,L,rfl⟩:=P_ h;have:=(JN (fun i=>ks.getD i 0) (ks.length-1)).2 i (by omega);have e:ks.getD i 0=ks[i]:=by simp_all
 simp only[e]at this;exact this
theorem QV(A:T_)(s:c_)(a:Int)(t:Tok)(c:Int)(u:Tok)(prog:C_)(w:S_)(E:Value->c_->Prop)(Q:Value->c_->Prop)(h:Q (.bool (decide (a>c))) s):p_ (u_ prog w) A (Ļ .Gt (.int a t) (.int c u)) Q E s:=(PyProof.Rows.gt_int h)
abbrev vT:List D->Option D:=vI kN
variable{X:Cx}{g:GE}{m:List Md}{e:Expr}{es:List Expr}{fl:am->Res (List D)}{pos p:Pos}
theorem MP(b:X.calm=true)(Y:Gl X "max")(U:X.mg "max" = none)(d:fF X g m (e::es) fl)(Z:f_ (e::es) X.env=(false,eval e X.env)::f_ es X.env:=by rfl)(L:(backTo pos (f_ es X.env)).any (·.1)=false:=by rfl):SE X g m (.Call (.Name "max" p) (e::es) [] pos) (fC fl vT):=eU (P8 fun _=>rfl) (i7 (Ro b _ call_max_walkS fun _ s a t c u E Q h=>QV _ s a t c u X.prog X.w E Q h) Y U PyProof.Rows.boot_max d (by decide) (rfl) Z L)
def n8:Nat:=2^2000
def nj(i j:Int):Prop:=i.natAbs<n8/\j.natAbs<n8
def ra(_i j:Int):Prop:=0<j/\j.natAbs<n8
instance decMulW(i j:Int):Decidable (nj i j):=by unfold nj;infer_instance
instance decDivW(i j:Int):Decidable (ra i j):=by unfold ra;infer_instance
theorem Gq(h:i.natAbs<n8):œ i<=2000:=by
 unfold œ;split
 .exact YQ _
 .rename_i z;have L:i.natAbs≠0:=fun e=>z (by rw[Int.natAbs_eq_zero.mp e];rfl);have:=(Nat.log2_lt L).mpr h;assumption
theorem nj.ok(h:nj i j):IntMulOk i j:=by
 have U:=Gq h.1;have L:=Gq h.2;unfold IntMulOk;have e:Qdl ((œ i)+(œ j))=false:=by
  unfold Qdl;have:((bitsLine))=134217728:=by decide+kernel
  grind
 rw[e];simp
theorem O3:br X (ZY .Mult) (rI nj fun i j=>.int (i*j)):=nY fun _ _ _ _ _ _ _ L q=>mul_int q L.ok
theorem QF:br X (ZY .FloorDiv) (rI ra fun i j=>.int (i/j)):=nY fun i j _ _ _ _ _ L q=>by
 have Z:(0:Int)<j:=L.1;have U:j.natAbs<n8:=L.2;have Y:j.natAbs≠0:=by omega
 have:=(Nat.log2_lt Y).mpr U;exact floordiv_int (by omega) (by rw[QbY i (by omega)];exact q) (.inl (PyProof.noPylong_of_log2 (by omega)))
abbrev mH:D->D->Option D:=kh nj fun a b=>.int (a*b)
abbrev vA:D->D->Option D:=kh ra fun a b=>.int (a/b)
variable{a b c o:Expr}{f fa fb fo:FE}
section
variable{fc:FE}{apos cpos:Pos}
theorem jU(U:SB X g m a fa)(L:SB X g m b fb):SE X g m (.BinOp a .Mult b pos) (f2 fa fb mH):=jQ O3 (nB fun _ _=>.int _) U L
theorem sn(U:SB X g m a fa)(L:SB X g m b fb):SE X g m (.BinOp a .FloorDiv b pos) (f2 fa fb vA):=jQ QF (nB fun _ _=>.int _) U L
def absD:List D->Option D
|[.int i]=>some (.int (if i<0 then-i else i))
|_=>none
theorem LH{K:W.Frag}:kZ K (fun xs H Q=>∃i:Int,xs=[.int i]/\Q (.int (if i<0 then-i else i)) H) absD:=by
 intro G H Z a d Q L U e q;unfold absD at e;split at e
 .cases e;cases U with
 |cons Y t=>cases t;exact⟨_,by rw[Y.int L],q _ G H (Grow.refl L) (.scl (.int _))⟩
 .cases e
theorem ES(Y:Gl X "abs")(U:X.mg "abs" = none)(a:fF X g m (e::es) fl)(Z:f_ (e::es) X.env=(false,eval e X.env)::f_ es X.env:=by rfl)(L:(backTo pos (f_ es X.env)).any (·.1)=false:=by rfl):SE X g m (.Call (.Name "abs" p) (e::es) [] pos) (fC fl absD):=eU LH (i7 Qa Y U PyProof.Rows.boot_abs a (by decide) (rfl) Z L)
theorem l5(Z:Gl X x)(Y:∃a,X.mg x=some (.ref a)/\KC X.K a d)(b:(x==("__debug__" : Str))=false:=by decide):SE X g m (.Name x pos) fun _=>.ok d:=by obtain⟨a,U,k⟩:=Y;exact PE.imp (GF (v:=.ref a) Z U rfl b) fun c H Q z=>by obtain⟨r,G,L,q⟩:=z;exact q _ G H (Grow.refl L.gok) (.kc k)
theorem KS{K:W.Frag}(Y:K.In h)(G:h.Ns Y9 L){a:Addr}{t u:Tok}{n:Nat}{U:Array (Option Value)}(z:W.nsIn K Y9 x=some (some (.ref a)))(l:K.lookup a=some ⟨.type "tuple",none,.seq #[.int i t,.int j u] n,U⟩):∃a,L x=some (.ref a)/\KC K a (.tup [.int i,.int j]):=by refine⟨a,W.mg_of Y G z,.tup (xs:=[.int i,.int j]) (.inr ⟨_,_,_,l,rfl,rfl,?_,.cons ⟨_,rfl⟩ (.cons ⟨_,rfl⟩ .nil)⟩) (.cons (.int _) (.cons (.int _) .nil)) ⟨_,l,rfl,rfl⟩⟩;show 2<=sizeLine;decide
end
def uP:aU->D
|.inl i=>.int i
|.inr x=>.str x
theorem Pe(k:aU):Scl (kV k) (uP k):=by cases k with
|inl i=>exact .int i
|inr x=>exact .str x
def oI:D->Option (List D)
|.dic kvs=>some (kvs.map fun kv=>uP kv.1)
|_=>none
def DZ(a:Addr)(ob:Obj)(ps:List (aU×V)):It:=⟨fun i H=>H a=some (.frz ob (.dK ps))/\i<ps.length,fun i H x H'=>H'=H/\∃kv,ps[i]? = some kv/\x=kV kv.1,fun i H=>H a=some (.frz ob (.dK ps))/\i=ps.length⟩
theorem Mv(h:(gG P w).is k u=true):av (kV k) u:=by
 rcases keyIs_shape h with⟨i,t,rfl,rfl⟩|⟨x,t,rfl,rfl⟩
 .exact⟨t,rfl⟩
 .exact⟨t,rfl⟩
section
variable{pz:List (Addr×Obj)}{σ:L2.St}{H:Hp}{s:c_}{a:Addr}{ob:Obj}{ps:List (aU×V)}
theorem yC(I:Inv X pz σ H s)(e:H a=some (.frz ob (.dK ps))){c:Array Ł}(L:ob.data=.dict c d):∃vs,KV ps vs/\s.heap.DictAt (gG X.prog X.w) a vs d/\(a==î)=false:=by
 obtain⟨b,z,y,vs,r,i,U,Y,Z,h,f,g⟩:=(I.hok a _ e)
 rw[b]at Z;cases Z;rw[L]at f;cases f;exact⟨vs,r,⟨ob,c,b,h,L,g⟩,y⟩
theorem NH(I:Inv X pz σ H s)(e:H a=some (.frz ob (.dK ps))):∃(Y:Array Ł)(Z:Nat),ob.data=.dict Y Z:=by
 obtain⟨f,z,y,b,r,c,L,U,d,i,h,g⟩:=(I.hok a _ e)
 simp_all
end
theorem R9{K:W.Frag}(a j:Addr){es:Array Ł}{J:Nat}(L:B.data=.dict es J):Turn P w K N (DZ a B ps) [j] j (fun i h=>h.IsKeyIter j a i ps.length J) where
 mem:=by simp
 obj:=fun i h Z b g=>by
  have e:=by simpa using g
  obtain⟨o,e,c,d⟩:=Z;simp_all
 keep:=fun i h G Z k=>Z.at fun o e=>k j (by simp) o e
 item:=by
  intro X v q x F i Q s M H E I n Z t;subst v q x;obtain⟨u,R⟩:=t;obtain⟨A,r,m,_⟩:=yC I u L;have l:=Paired.length r;have U:i<A.length:=by omega
  obtain⟨C,T,S⟩:=DL.Paired.get r (g_ U);obtain⟨z,f1,f2,f3,f4,y⟩:=n j (by simp);rw[l]at Z;refine wpAny_pyNext_dict_item Z m (g_ U) fun p G Y f O=>?_;have I1:=I.turned (t':=s.toks) (fun b o g e=>(O.2 b g).trans e) z f1 f3 f4 y;obtain⟨o,e,c,d⟩:=id f;exact⟨p,rfl,qW e c d (rfl) ⟨kV C.1,H,I1,by rw[S.1];exact Mv Y,⟨rfl,C,T,rfl⟩,by rw[l];exact f,fun b g=>(n b g).1⟩⟩
 done:=by intro X v q x F i Q s M H E I n Z t;subst v q x;obtain⟨u,R⟩:=t;obtain⟨A,r,m,_⟩:=yC I u L;have l:=Paired.length r;obtain⟨z,f1,f2,f3,f4,y⟩:=n j (by simp);rw[l]at Z;exact wpAny_pyNext_dict_end (I.ok.hd F) Z m (by simp_all) fun G eb=>⟨rfl,I.turned (fun b o g e=>eb b o g e) z f1 f3 f4 y⟩
 self:=fun _ _ _ _ _ Z h=>wpAny_pyIter_keyiter Z h
variable{pos':Pos}
section
variable{m' m1 mb:List Md}{tg iter:Expr}{p:FQ}{ro:Bool}{sts:List Stmt}{s1:FS}
theorem Ou(c:PE X l tl):PI X tg l (fun σ H R=>tl σ H fun x Y=>∃a Z ps,x=.ref a/\Y a=some (.frz Z (.dK ps))/\R (DZ a Z ps) Y):=by
 intro i s σ H R I h;refine aW (c i s σ H _ I h) fun v d z=>?_;obtain⟨x,Y,U,g,q1⟩:=z;obtain⟨a,Z,ps,e,f,q⟩:=q1;subst e;cases g;obtain⟨p,t,L⟩:=NH U f;obtain⟨n,r,j,k⟩:=yC U f L;have c:=Paired.length r;refine wpAny_pyIter_dict k j ?_;refine⟨d.heap.objs.size,[d.heap.objs.size],_,_,Y,rfl,U.kept fun b o e=>a_ _ e,R9 a _ L,⟨_,i_ _ rfl,rfl,by rw[c];rfl⟩,fun b m=>?_,q⟩;have e:=by simpa using m
 subst e;exact U.fpOk (q_ _) (U.hok.fresh (q_ _))
theorem MA{K:W.Frag}(r:gl K G ps U){i:Nat}{d:D}(h:ps[i]? = some Z)(Y:(U.map fun Z=>uP Z.1)[i]? = some d):RG K G (kV Z.1) d:=by rw[l_]at Y;cases e:U[i]? with
|none=>rw[e]at Y;cases Y
|some q=>rw[e]at Y;cases Y;obtain⟨L,a,b⟩:=DL.Paired.get r e;rw[h]at a;cases a;rw[b.1];exact .scl (Pe _)
theorem RG.dicF{K:W.Frag}(Y:bi K G H)(h:RG K G v (.dic L)):∃a U ps,v=.ref a/\G a=some (.dic L)/\H a=some (.frz U (.dK ps))/\gl K G ps L:=by cases h with
|scl s=>cases s
|ref e=>cases Y _ _ e with
 |dic r s=>exact⟨_,_,_,rfl,e,r,s⟩
|kc k=>cases k
theorem NV{K:W.Frag}{a:Addr}{c:GH}{b:Hp}(Z:b a=some (.frz U (.dK ps)))(r:gl K c ps L):YieldsC K (DZ a U ps) (L.map fun Y=>uP Y.1) c b:=by have g:=Paired.length r;refine⟨fun G H i w h=>⟨w.he _ _ Z,by simp_all⟩,fun G H i x j d w y e=>?_,fun G H w=>⟨w.he _ _ Z,by simp_all⟩⟩;obtain⟨rfl,Y,f,rfl⟩:=y;exact⟨G,Grow.refl w.ok,MA (gl.mono r w.ge) f e⟩
theorem NS(h:SE X g m e f):fg X g m tg e (aV oI f):=by
 refine PI.imp (Ou h) fun l H R ⟨r,G,U,q⟩=>⟨r,G,U,bu (bv q) fun d q v k j w Y=>?_⟩
 obtain⟨n,e,q⟩:=cJ q;cases d with
|dic i=>obtain⟨a,c,b,rfl,_,L,Z⟩:=RG.dicF w.ok Y;exact⟨a,c,b,rfl,L,q _ k j w (NV L Z)⟩
|_=>cases e
theorem ER{K:W.Frag}(r:bJ K G xs ds):∀n:Nat,bJ K G (t_ n xs).flatten (t_ n ds).flatten
|0=>.nil
|n+1=>by exact DL.Paired.app r (ER r n)
end
section
open PySem.AutoSeq1 (wpAny_loadPart')
theorem T8:seqRepeat? (.type "tuple")=pure (some (.builtin "tuple.__mul__")):=rfl
theorem UW:fillsNumberSlot (.type "tuple") "mul" = pure false:=by kernel_rfl
theorem Tj(a:Int)(t:Tok)(l:Addr)(U:Array Value)(n:Nat)(L:Option Addr)(Z:Array (Option Value)):ë (Zf.«int.__rmul__» ⟨[.int a t,.ref l],[]⟩) (fun _ R s=>s.heap.get? l=some { cls:=.type "tuple",dict:=L,data:=.seq U n,slots:=Z }/\R (.ok (.ret .notImplemented)) s):=
 .of_wp fun Y w A R s h=>by
  obtain⟨b,h⟩:=h
  wp_walk using Q_b b,ZN hT
  exact⟨_,rfl,h⟩
theorem Tg(l:Addr)(U:Array Value)(n:Nat)(L:Option Addr)(Z:Array (Option Value))(u:Tok):ë (Zf.«tuple.__mul__» ⟨[.ref l,.int 1 u],[]⟩) (fun _ R s=>s.heap.get? l=some { cls:=.type "tuple",dict:=L,data:=.seq U n,slots:=Z }/\R (.ok (.ret (.ref l))) s):=
 .of_wp fun Y w A R s h=>by
  obtain⟨a,h⟩:=h
  wp_walk using Q_b a,ZN hT
  exact⟨_,rfl,h⟩
theorem R3(l:Addr)(U:Array Value)(n:Nat)(L:Option Addr)(b:Array (Option Value))(k:Int)(u:Tok)(f:¬ (decide (k < -2^63) || decide (k>=2^63))=true)(i:¬ (U.isEmpty || k==1)=true)(g:¬ (decide (k<=0) || U.isEmpty)=true)(e:¬ ((U.size:Int)*k>(2^63-1)/8))(d:¬ Qb7 ((U.size:Int)*k)=true)(c:(É (fun x1 Y=>x1++Y) #[] (t_ k.toNat U)).size<=sizeLine):ë (Zf.«tuple.__mul__» ⟨[.ref l,.int k u],[]⟩) (fun _ R s=>s.heap.get? l=some { cls:=.type "tuple",dict:=L,data:=.seq U n,slots:=b } /\R (.ok (.ret (.ref s.heap.objs.size))) { s with heap:=s.heap.push { cls:=.type "tuple",data:=.seq (É (fun x1 Y=>x1++Y) #[] (t_ k.toNat U)) } }):=
 .of_wp fun Z w A R s h=>by
  obtain⟨a,h⟩:=h
  wp_walk using Q_b a,ZN hT
  rw[Q_f f]
  wp_walk using Q_b a,ZN hT
  rw[Q_f e];rw[Q_f d];unfold Œ;exact Q_a (Zc (e_ ⟨_,rfl,h⟩) c)
def EM(K:W.Frag):R2:=fun x y H Q=>∃l k xs,x=.ref l/\y=.int k/\cg K H l xs/\1<=k/\k<2^62/\1<=xs.length/\xs.length*k.toNat<=sizeLine/\(k=1->Q (.ref l) H)/\∀p,H p=none->Q (.ref p) (aO H p (.tup (t_ k.toNat xs).flatten))
def rL:D->D->Option D
|.tup ds,.int k=>if 1<=k/\k<2^62/\1<=ds.length/\ds.length*k.toNat<=sizeLine then some (.tup ((t_ k.toNat ds).flatten))else none
|_,_=>none
section
variable{X:Cx}{g:GE}{m:List Md}{a b:Expr}{fa fb:FE}{pos:Pos}
theorem O6:br X (ZY .Mult) (EM X.K):=by
 intro J s G H x y v u Q I q p h;obtain⟨l,k,i,rfl,rfl,E,P,O,M,g,q1,r⟩:=h;cases q;obtain⟨t,rfl⟩:=p;obtain⟨Y,f,⟨⟨c,L,R,d⟩,Z,C,n,B⟩,_⟩:=I.tuple E;subst C B;have w:=f.length;have a:s.TypeIs (.ref l) "tuple" := ⟨_,Z,rfl⟩
 refine wpAny_binaryOp_repeat_ref (rfl) a (fun o=>Qe5 o k t) UW F.fills_int_mul F.slot_int_rmul T8 F.slot_int_index.lookup
  (õ F.slot_int_rmul (Qe5 s k t) F.entry_int_rmul (F.args_int_rmul_2 _ _) (Tj k t l Y.toArray n L d) ⟨Z,rfl,a,?_⟩)
 by_cases z:k=1
 .subst z;exact õ F.slot_tuple_mul a F.entry_tuple_mul (F.args_tuple_mul_2 _ _) (Tg l Y.toArray n L d t) ⟨Z,.ref l,H,I,rfl,q1 rfl⟩
 .have hnew:É (fun m j=>m++j) #[] (t_ k.toNat Y.toArray)=(t_ k.toNat Y).flatten.toArray:=by have:=IJ Y k.toNat [];simp_all
  have U:(Y.toArray.size:Int)*k=((i.length*k.toNat:Nat):Int):=by grind
  have N:(sizeLine:Nat)<=(2^63-1)/8:=by decide
  refine õ F.slot_tuple_mul a F.entry_tuple_mul (F.args_tuple_mul_2 _ _) (R3 l Y.toArray n L d k t ?_ ?_ ?_ ?_ ?_ ?_) ⟨Z,?_⟩
  .grind
  .grind
  .grind
  .omega
  .unfold Qb7
   grind
  .rw[hnew,A_,GM,Ň,<-w];exact g
  .rw[hnew];have A:=I.hok.fresh (q_ _);refine⟨.ref s.heap.objs.size,_,I.laid (fun b u e=>a_ _ e) (q_ _) ?_,rfl,r _ A⟩;exact⟨by rw[GM,Ň];exact g,_,f.rep k.toNat,⟨_,i_ _ rfl,rfl,_,rfl⟩,_,i_ _ rfl,rfl⟩
theorem OA{K:W.Frag}:dU K (EM K) rL:=by
 intro G H h g j i d Q U L Y e q;unfold rL at e;split at e
 .rename_i ds k;split at e
  .rename_i hl;cases e;rcases L with L|⟨l,_,Z⟩
   .obtain⟨a,xs,rfl,s1,t1⟩:=L.tup U;have b:=Paired.length t1;refine⟨a,k,xs,rfl,Y.int U,s1,hl.1,hl.2.1,by omega,by rw[b];exact hl.2.2.2,fun f=>?_,fun p c=>q _ _ _ (Grow.newF U c (.tup (.inl bV) (ER t1 k.toNat))) (.ref ga)⟩;subst f;refine q _ G H (Grow.refl U) ?_;rw[show(t_ (ZS 1) ds).flatten=ds by simp];exact L
   .cases Z.ob
  .cases e
 .cases e
theorem MS(U:SB X g m a fa)(L:SB X g m b fb):SE X g m (.BinOp a .Mult b pos) (f2 fa fb rL):=jQ O6 OA U L
end
end
theorem Rv(c:X.calm=true):dJ X (.builtin "sum") (fun xs H Q=>∃(p:Addr)(ks:List Int),xs=[.ref p]/\bp X.K H p (ks.map V.int)/\Q (.int ks.sum) H):=by intro j s f H xs g Q I r h;obtain⟨p,ks,rfl,b,q⟩:=h;obtain⟨u,rfl,U⟩:=bA r;cases U;obtain⟨a,Y,Z,l⟩:=I.list b;obtain⟨k,F⟩:=I.fr;exact Qfp F (HQ) (I.ok.hd c) Z.isList (pM Y) fun m L i e d=>⟨.int ks.sum,_,Inv.keptF I F e d L,⟨_,rfl⟩,q⟩
def sumD:List D->Option D
|[.lst ds]=>(cP ds).map fun ks=>.int ks.sum
|_=>none
theorem M4{K:W.Frag}:kZ K (fun xs H Q=>∃(p:Addr)(ks:List Int),xs=[.ref p]/\bp K H p (ks.map V.int)/\Q (.int ks.sum) H) sumD:=by
 intro G H c f d Q L Y e q;unfold sumD at e;split at e
 .rename_i zs;cases U:cP zs with
 |none=>rw[U]at e;cases e
 |some ks=>rw[U]at e;cases e;cases Y with
  |cons Z t=>cases t;obtain⟨b,xs,rfl,s,r⟩:=Z.lst L;have a:=ma L r U;subst a;exact⟨b,ks,rfl,s,q _ G H (Grow.refl L) (.scl (.int _))⟩
 .cases e
theorem EE(a:X.calm=true)(Y:Gl X "sum")(U:X.mg "sum" = none)(b:fF X g m (e::es) fl)(Z:f_ (e::es) X.env=(false,eval e X.env)::f_ es X.env:=by rfl)(L:(backTo pos (f_ es X.env)).any (·.1)=false:=by rfl):SE X g m (.Call (.Name "sum" p) (e::es) [] pos) (fC fl sumD):=eU M4 (i7 (Rv a) Y U PyProof.Rows.boot_sum b (by decide) (rfl) Z L)
def gW(x:Int):List Int->List Int
|[]=>[x]
|y::l=>if x<=y then x::y::l else y::gW x l
def gr:List Int->List Int
|[]=>[]
|x::l=>gW x (gr l)
theorem Ab(x:Int):∀l:List Int,(gW x l).Perm (x::l)
|[]=>.refl _
|y::l=>by
  unfold gW;by_cases h:x<=y
  .rw[Q_e h]
  .rw[Q_f h];exact((Ab x l).cons y).trans (.swap x y l)
theorem tj:∀l:List Int,(gr l).Perm l
|[]=>.refl _
|x::l=>(Ab x _).trans ((tj l).cons x)
theorem Gn(x:Int):∀l:List Int,l.Pairwise (·<=·)->(gW x l).Pairwise (·<=·)
|[],_=>by unfold gW;simp
|y::l,h=>by
  rw[ė]at h;unfold gW;by_cases U:x<=y
  .rw[Q_e U,ė,ė];refine⟨fun z L=>?_,h⟩;rcases s_.mp L with rfl|L
   .exact U
   .exact Int.le_trans U (h.1 z L)
  .rw[Q_f U,ė];refine⟨fun z L=>?_,Gn x l h.2⟩;rcases s_.mp ((Ab x l).mem_iff.mp L)with rfl|L
   .omega
   .exact h.1 z L
theorem yJ:∀l:List Int,(gr l).Pairwise (·<=·)
|[]=>.nil
|x::l=>Gn x _ (yJ l)
theorem wA:∀{a b:List Int},a.Perm b->a.Pairwise (·<=·)->b.Pairwise (·<=·)->a=b
|[],b,p,_,_=>(List.nil_perm.mp p).symm
|x::a,[],p,_,_=>Q_g (List.perm_nil.mp p) (by simp)
|x::a,y::b,p,U,L=>by
  rw[ė]at U L;have Z:y<=x:=by
   rcases s_.mp (p.mem_iff.mp m_)with e|e
   .omega
   .exact L.1 x e
  have Y:x<=y:=by
   rcases s_.mp (p.mem_iff.mpr m_)with e|e
   .omega
   .exact U.1 y e
  have e:x=y:=by omega
  subst e;rw[wA (List.Perm.cons_inv p) U.2 L.2]
end DL
section
namespace DL
section
open PySem PyProof.Rows PySem.W PySem.Calls
variable{prog:C_}{w:S_}{A:T_}{E:Value->c_->Prop}{s:c_}{l:Addr}{vs:List Value}{ns:List Int}
theorem Uq(c:ã s.heap l vs.toArray)(h:∀Y,Y=(s.heap.push (ê "list" #[] 0)).update s.heap.objs.size (Y6 (·++vs.toArray))->Q vs { s with heap:=Y })(Z:vs.length<=sizeLine):p_ (u_ prog w) A (collect (.ref l)) Q E s:=by
 obtain⟨o,b,f,n,d⟩:=c;have U:(s.heap.push (ê "list" #[] 0)).get? l=some o:=a_ _ b;have L:(s.heap.push (ê "list" #[] 0)).get? s.heap.objs.size=some _:=i_ _ rfl;unfold collect;refine Q_a (Ķ (Y5 entry_proto_collect' (Q_a (Ĺ (e_ ⟨Qb2 _ (by decide+kernel),Y5 entry_list_iadd' ?_⟩)))));show p_ _ _ (YZ (.ref s.heap.objs.size) (.ref l) (.ref s.heap.objs.size)) _ _ { s with heap:=s.heap.push _ };unfold YZ;refine Q_a (ZN ⟨o,U,f⟩ ?_);have a:(Value.type "tuple" == Value.type "tuple")=true:=by rfl
 rw[Q_e (by rw[a,Bool.or_true])];refine Q_a (Qep U d (Q_a (Qep L rfl ?_)));refine Q_a (ŏ L rfl (e_ ?_) (YQ _) (by grind));refine Q_a (ž (Qdc L _) ?_);have e:((#[])++vs.toArray).toList=vs:=by simp
 show p_ _ _ (pure ((#[]:Array Value)++vs.toArray).toList) Q E _;rw[e];exact e_ (h _ rfl)
theorem Tw(c:ã s.heap l vs.toArray)(d:æ vs ns)(Y:vs.length<64)(h:∀(L:Array Value)(Z:List Int),æ L.toList Z->Z.Perm ns->Z.Pairwise (·<=·)->Q (.ref (s.heap.objs.size+1)) { s with heap:=sortedAll s.heap vs L }):p_ (u_ prog w) A (call (.builtin "sorted") [.ref l]) Q E s:=by
 refine Qci kind_sorted plain_sorted entry_sorted (args_sorted1 _) ?_;refine Q_a (e_ (Q_a (Uq c (fun b i=>?_) (by rw[O_];omega))));refine Q_a (Ĺ ?_ (by rw[O_];omega));have a:b.objs.size=s.heap.objs.size+1:=by simp_all
 have U:(b.push (ê "list" vs.toArray 0)).get? (s.heap.objs.size+1)=some (ê "list" vs.toArray 0):=by rw[<-a];exact i_ _ rfl
 rw[a];refine Q_a (YH (Y0 slot_list_sort ⟨_,U,rfl⟩ entry_list_sort (list_sort_tree U d Y fun L Z g f e=>⟨_,rfl,e_ ⟨_,rfl,?_⟩⟩) (args_list_sort _)));have:=h L Z g f e;unfold sortedAll at this;simp_all
end
open PySem PySem.Spec PyProof.Rows L2
section
variable{X:Cx}{pz:List (Addr×Obj)}{σ:L2.St}{H:Hp}{s:c_}
theorem Up:dJ X (.builtin "sorted") (fun xs H Q=>∃p ks,xs=[.ref p]/\cg X.K H p (ks.map V.int)/\ks.length<64/\∀l,H l=none->Q (.ref l) (aO H l (.lst ((gr ks).map V.int)))):=by
 intro G s E H xs F Q I r h;obtain⟨p,ks,rfl,x,Y,q⟩:=h;obtain⟨u,rfl,k⟩:=bA r;cases k;obtain⟨a,n,t,J⟩:=I.tuple x;have f:=by simpa using pM n
 have Z:=IntsAre.length f;refine Tw t f (by omega) fun L v C g B=>?_;obtain⟨c,y⟩:=sortedAll_at s.heap a L;have U:s.heap.get? _=none:=Ś (Ċ _);have w:∀b o,s.heap.get? b=some o->(sortedAll s.heap a L).get? b=some o:=fun _ _=>sortedAll_old;have e:=wA (g.trans (tj ks).symm) B (yJ ks);subst e;have d:=I.lt;refine⟨.ref _,_,Inv.laidN (t':=_) I U (YS (Y2 d)) (by simp_all) (fun m ⟨o,z,A,j,i⟩=>⟨o,z,A,w _ _ j,i⟩) (by simpa using y) (zW C) ?_,rfl,q _ (I.hok.fresh (Ċ _))⟩;rw[b_,g.length_eq,O_];omega
end
def oW:List D->Option D
|[.tup ds]=>(cP ds).bind fun ks=>if ks.length<64 then some (.lst ((gr ks).map .int))else none
|_=>none
section
variable{X:Cx}{g:GE}{m:List Md}{a b:Expr}{fl:am->Res (List D)}{fa fb:FE}{pos p:Pos}
theorem RJ(z:Room k X.A)(o:Gl X "sorted")(n:X.mg "sorted" = none)(u:fF X g m [a] fl)(hs:f_ [a] X.env=(false,eval a X.env)::f_ [] X.env:=by rfl):SO X g m (.Call (.Name "sorted" p) [a] [] pos) (fC fl oW):=by
 refine rA ?_ (i7 Up o n (by first|grind|rfl) u (by decide) (by decide) hs rfl);intro G H y B d Q Z h e q;unfold oW at e;split at e
 .rename_i zs;cases c:cP zs with
 |none=>rw[c]at e;cases e
 |some Y=>
   rw[c]at e;have f:(if Y.length<64 then some (D.lst ((gr Y).map .int))else none)=some d:=e;by_cases U:Y.length<64
   .rw[Q_e U]at f;cases f;cases h with
   |cons i t=>
     cases t;obtain⟨b,w,rfl,s,r⟩:=i.tup Z;have v:=ma Z r c;subst v;refine⟨b,Y,rfl,s,U,fun l L=>q l G _ (Grow.new Z L _) L ⟨Z.isN L,.lst bV ?_⟩⟩;have:∀l:List Int,bJ X.K G (l.map V.int) (l.map D.int):=fun l=>by induction l with
     |nil=>exact .nil
     |cons x l j=>exact .cons (.scl (.int x)) j
     exact this _
   grind
 .cases e
end
end DL
end
section
namespace DL
section
open PySem PyProof.Rows
variable{prog:C_}{w:S_}{A:T_}{R:ò->c_->Prop}{I S:Addr}{fp wr:List Addr}{n:Nat}{P:Nat->Value->Prop}{St:Nat->Heap->Prop}{TP:Heap->Prop}{bt:Nat->Nat->Bool}
end
end DL
end
namespace DL
open PySem PySem.Spec PyProof.Rows L2
end DL
namespace DL
open PySem PySem.Spec PyProof.Rows L2 PySem.W PySem.Calls
theorem pX:Slot "reversed" "__next__" "reversed.__next__" := .of (owner := "reversed") (n := "__next__") (by kernel_rfl) (by decide+kernel) (by decide+kernel) (by decide+kernel) (by first|exact .inl (by decide+kernel)|grind) (by rw[Ë];kernel_rfl)
theorem Kd:Slot "reversed" "__iter__" "reversed.__iter__" := .of (owner := "reversed") (n := "__iter__") (by kernel_rfl) (by decide+kernel) (by decide+kernel) (by decide+kernel) (by first|exact .inl (by decide+kernel)|grind) (by rw[Ë];kernel_rfl)
theorem Uj:Slot "reversed" "__init__" "object.__init__" := .of (owner := "object") (n := "__init__") (by kernel_rfl) (by decide+kernel) (by decide+kernel) (by decide+kernel) (by first|exact .inl (by decide+kernel)|grind) (by rw[Ë];kernel_rfl)
theorem Kq:entryFor table "reversed.__next__" = some Zf.«reversed.__next__»:=entryFor_of_tree (rfl)
theorem Kb(a:Value):argsOk "reversed.__next__" ⟨[a],[]⟩:=by kernel_rfl
theorem TQ(a:Value):argsOk "reversed.__iter__" ⟨[a],[]⟩:=by kernel_rfl
theorem Rx:TypeCalled "reversed" "reversed.__new__" "object.__init__":=⟨by decide+kernel,by decide+kernel,⟨_,_,F.mro_reversed⟩,F.made_reversed,by decide+kernel,by kernel_rfl,Uj⟩
theorem SN:Ā (.type "tuple") "__reversed__" = pure none:=by rw[ų,ũ];kernel_rfl
theorem Tz:ł (.type "tuple") (.type "dict")=pure false:=by kernel_rfl
theorem Ss:Ā (.type "reversed") "__len__" = pure none:=by kernel_rfl
theorem OI:Ā (.type "reversed") "__length_hint__" = pure (some (.builtin "reversed.__length_hint__")):=by kernel_rfl
theorem UD:entryFor table "reversed.__iter__" = some Zf.«dict_keyiterator.__iter__»:=entryFor_alias (id' := "dict_keyiterator.__iter__") (by kernel_rfl) (by first|rfl|decide+kernel|grind) (by decide+kernel) (rfl)
abbrev Dp(l:Addr)(i:Int):Obj:={ cls:=.type "reversed",data:=.fields #[.ref l,â i] }
abbrev dW(h:Heap)(I l:Addr)(i:Int):Prop:=h.get? I=some (Dp l i)
theorem QZ(l:Addr)(L:Array Value)(hz:L.size<=sizeLine):ë (Zf.«reversed.__new__» ⟨[.type "reversed",.ref l],[]⟩) (fun _ R s=>ã s.heap l L/\∀b,R (.ok (.ret (.ref s.heap.objs.size))) { s with heap:=s.heap.push (Dp l ((L.size:Int)-1)),toks:=b }):=
 .of_wp fun Y w A R s h=>by
  obtain⟨Z,h⟩:=h;have U:=Z.typeIs;unfold Zf.«reversed.__new__»;refine Q_a (Z6 (newClass_reversed _) ?_)
  try dsimp only
  refine Q_a (Z6 (a:=()) (by first|rfl|kernel_rfl) ?_);refine Q_a (Z6 (a:=()) (by first|rfl|kernel_rfl) ?_)
  try dsimp only
  refine Q_a (ZX U SN ?_)
  try dsimp only
  refine Q_a (Q_a (Ġ U Tz ?_));refine Q_a (ZX U YF.lookup ?_)
  try dsimp only
  refine e_ ?_;refine Q_a (len_tuple Z (by rw[O_]at hz;omega) ?_);refine Q_a (e_ ?_)
  dsimp only
  unfold QeT;refine Q_a (Zc ?_);exact e_ ⟨_,rfl,h _⟩
variable{prog:C_}{w:S_}{A:T_}{E:Value->c_->Prop}{s:c_}{I l:Addr}{items:Array Value}
theorem Od(Y:ã s.heap l items)(hz:items.size<=sizeLine)(h:∀L,Q (.ref s.heap.objs.size) { s with heap:=s.heap.push (Dp l ((items.size:Int)-1)),toks:=L }):p_ (u_ prog w) A (call (.type "reversed") [.ref l]) Q E s:=ġ Rx (rfl) (F.typeCall_reversed_1 _) (F.newCall_reversed_1 _) (fun U=>F.args_object_init_2 U _) F.entry_reversed_new (QZ l items hz) ⟨Y,fun L=>⟨⟨_,i_ _ rfl,rfl⟩,h L⟩⟩
theorem OJ{i:Nat}(L:dW s.heap I l (i:Int))(Y:ã s.heap l items)(hz:items.size<=sizeLine)(U:items[i]? = some x)(c:∀h' a,dW h' I l ((i:Int)-1)->Zq I s.heap h'->Q (some x) { s with heap:=h',toks:=a }):p_ (u_ prog w) A (å (.ref I)) Q E s:=by
 have Z:s.TypeIs (.ref I) "reversed" := ⟨_,L,rfl⟩
 unfold å;refine Q_a (Î (YX Z pX (Y0 pX Z Kq ?_ (Kb _))));unfold Zf.«reversed.__next__»;refine Q_a (Z6 rfl ?_)
 try dsimp only
 refine Q_a (Q_ L rfl (x:=.ref l) rfl ?_);refine Q_a (Q_ L rfl rfl ?_);show p_ _ _ (if (i:Int)<0 then _ else _) _ _ s;refine Q_a (ZX Y.typeIs YF.lookup ?_);have d:i<items.size:=(Y7.mp U).1;rw[O_]at hz;refine Q_a (wpAny_mkInt ?_);refine Q_a (Î (getItem_tuple Y (by omega) (by omega) (j:=i) ((ļ (by omega) (by omega)).trans (by simp)) U ?_));refine Q_a (Q_ L rfl rfl ?_);refine Q_a (YO L (by simp) fun g b k=>?_);exact e_ ⟨x,rfl,e_ (c g _ b k)⟩
theorem No(i:A.handled=none)(Y:dW s.heap I l (-1))(j:∀h' d,ĩ I s.heap h'->Q none { s with heap:=h',toks:=d }):p_ (u_ prog w) A (å (.ref I)) Q E s:=by
 have c:s.TypeIs (.ref I) "reversed" := ⟨_,Y,rfl⟩
 unfold å;refine Q_a (Î (YX (name:=YT "__next__") c pX (Y0 pX c Kq ?_ (Kb _))));unfold Zf.«reversed.__next__»;refine Q_a (Z6 (a:=(Value.ref I,[])) rfl ?_)
 try dsimp only
 refine Q_a (Q_ Y rfl (x:=.ref l) rfl ?_);refine Q_a (Q_ Y rfl (x:=â (-1)) rfl ?_);show p_ _ _ (if (-1:Int)<0 then _ else _) _ _ s;rw[Q_e (by decide)];refine Q_a (ü ?_);refine Q_a ?_;show p_ _ _ (setField (.ref I) 1 (â (-1)) >>= fun _=>setField (.ref I) 0 .none) _ _ _;refine Q_a (YO Y (by simp) fun n L h=>?_);refine YO L (by simp) fun k U g=>?_;refine Q_a ?_;show p_ _ _ (newExc (.type "StopIteration") [] >>= _) _ _ _;refine Q_a ?_;simp only[newExc,newTuple];refine Q_a (Zc ?_ (by size_fits));refine Q_a (m:=Ŵ _ _) (Z6 (a:=Value.none) (by first|rfl|(simp only[Ŵ];rfl)) ?_);refine Zc ?_ (by size_fits);simp only[raiseNew];refine Q_a (wpAny_handled ?_);rw[show A.in1.handled=none by simp[i]];refine Q_a (e_ (wpAny_throw ?_));refine Q_a (Ġ (T := "StopIteration") (b:=true) ⟨_,i_ _ rfl,rfl⟩ Ŷ ?_);have f:ĩ I s.heap k:=fun b o Z e=>g.extBut _ _ Z (h.extBut _ _ Z e);exact e_ (j _ _ ((Heap.ExtBut.push f _).push _))
theorem GV(L:dW s.heap I l i)(h:Q (.ref I) s):p_ (u_ prog w) A (ö (.ref I)) Q E s:=by
 have U:s.TypeIs (.ref I) "reversed" := ⟨_,L,rfl⟩
 refine wpAny_pyIter_slot U Kd (Y0 Kd U UD ?_ (TQ _));exact e_ ⟨_,rfl,"reversed",_,U,pX.lookup,h⟩
theorem QA(q:A.handled=none)(I l:Addr)(j:l≠I)(Y:Array Value)(hz:Y.size<=sizeLine):Walks prog w A I [I,l] [I] Y.size (fun i v=>Y[Y.size-1-i]? = some v) (fun i h=>i<=Y.size/\dW h I l ((Y.size:Int)-1-(i:Int))/\ã h l Y) where
 sub:=fun b c=>by simp at c;simp[c]
 frame:=fun _ _ _ x n=>⟨x.1,n I (by simp) _ x.2.1,let⟨o,e,r⟩:=x.2.2;⟨o,n l (by simp) o e,r⟩⟩
 item:=fun i s Q E p x d=>by
  have e:(Y.size:Int)-1-(i:Int)=((Y.size-1-i:Nat):Int):=by omega
  have Z:=x.2.1;rw[e]at Z;have m:Y[Y.size-1-i]? = some (Y[Y.size-1-i]'(by omega)):=w_ (by omega);refine OJ Z x.2.2 hz m fun k g a L=>?_;have t:((Y.size-1-i:Nat):Int)-1=(Y.size:Int)-1-((i+1:Nat):Int):=by omega
  rw[t]at a;exact d _ k g m ⟨p,a,let⟨o,f,r⟩:=x.2.2;⟨o,(L.2 l j).trans f,r⟩⟩ fun b o c f=>L.extBut b o (fun h=>c (by simp[h])) f
 done:=fun s Q E x d=>by
  have e:(Y.size:Int)-1-(Y.size:Int) = -1:=by omega
  have Z:=x.2.1;rw[e]at Z;exact No q Z fun k g U=>d k g fun b o c f=>U b o (fun h=>c (by simp[h])) f
 self:=fun _ _ _ _ x d=>GV x.2.1 d
theorem Kc:Slot "reversed" "__length_hint__" "reversed.__length_hint__" := .of (owner := "reversed") (n := "__length_hint__") (by kernel_rfl) (by decide+kernel) (by decide+kernel) (by decide+kernel) (by first|grind|exact .inr (by decide+kernel)) (by rw[Ë];kernel_rfl)
theorem UC:entryFor table "reversed.__length_hint__" = some Zf.«reversed.__length_hint__»:=entryFor_of_tree (rfl)
theorem TM(a:Value):argsOk "reversed.__length_hint__" ⟨[a],[]⟩:=by kernel_rfl
theorem Ul(L:dW s.heap I l ((items.size:Int)-1))(Z:ã s.heap l items)(Y:items.size<=sizeLine)(h:∀t U,Q (.int items.size t) { s with toks:=U }):p_ (u_ prog w) A (call (.builtin "reversed.__length_hint__") [.ref I]) Q E s:=by
 have a:s.TypeIs (.ref I) "reversed" := ⟨_,L,rfl⟩
 refine Y0 Kc a UC ?_ (TM _);refine Q_a (Z6 rfl ?_);refine Q_a (Q_ L rfl rfl ?_);refine Q_a (len_tuple Z (by rw[O_]at Y;omega) ?_);refine Q_a (e_ ?_);refine Q_a (Q_ L rfl rfl ?_);show p_ _ _ (if (items.size)<(items.size:Int)-1+1 then _ else _) _ _ _;rw[Q_f (by omega)];refine wpAny_ret_mkInt ?_;rw[show(items.size:Int)-1+1=items.size by omega];exact h _ _
theorem NQ(Y:dW s.heap I l ((items.size:Int)-1))(e:ã s.heap l items)(c:items.size<=sizeLine)(h:∀b a,Q b { s with toks:=a }):p_ (u_ prog w) A (QaJ (.ref I)) Q E s:=by
 have Z:s.TypeIs (.ref I) "reversed" := ⟨_,Y,rfl⟩
 unfold QaJ;refine Q_a (ZX Z Ss ?_);refine Q_a (ZX Z OI ?_);generalize U:("reversed.__length_hint__" : String)=d
 wp_delta
 subst U;refine Q_a (Ġ (T := "reversed") (b:=true) Z (by rw[Ë];kernel_rfl) ?_);refine Q_a (ü ?_);refine Q_a (Z6 (Kc.bind _) ?_);refine Q_a (Î (Ul Y e c fun t a=>?_))
 dsimp only
 rw[show asInt? (Value.int (items.size:Int) t)=pure (some (items.size:Int))from rfl,pure_bind]
 dsimp only
 have L:=c;rw[O_]at L;have g:QaL (items.size:Int)=true:=by
  unfold QaL
  grind
 have f:ZO (items.size:Int).toNat=false:=by unfold ZO;simp_all
 simp only[g,f,Qfy,YE,Q_n];rw[Q_f (by omega)];exact e_ (h _ _)
theorem Sr(H:A.handled=none)(n:l≠I)(d:dW s.heap I l ((a.size:Int)-1))(z:ã s.heap l a)(S:Addr)(F:S≠I)(X:S≠l)(Y:Value)(C:Nat)(t:s.heap.get? S=some { cls:=.type "list",data:=.seq #[] C })(K:∀h' k L j,(∀b o,b≠S->b≠I->s.heap.get? b=some o->h'.get? b=some o)->h'.get? S=some { cls:=.type "list",dict:=none,data:=.seq L j,slots:=#[] }->ć (fun i v=>a[a.size-1-i]? = some v) L a.size->R (.ok (.ret Y)) { s with heap:=h',toks:=k })(p:a.size<=sizeLine)(J:s.TypeIs (.ref I) "reversed") :
  p_ (u_ prog w) A.in1 (YZ (.ref S) (.ref I) Y)
   (fun fin c=>match fin with|.done f=>R (.ok f) c|.again j=>j.quiet=true/\Z1 (u_ prog w) A j R c) (fun e c=>R (.error e) c) s:=by
 have W:=QA (prog:=prog) (w:=w) (A:=A.in1) (by simp[H]) I l n a p;have E:S∉[I,l]:=by simp only[s_,L_,Q_m,not_or];exact⟨F,X⟩
 have x:(fun(i:Nat)(h:Heap)=>i<=a.size/\dW h I l ((a.size:Int)-1-(i:Int))/\ã h l a) 0 s.heap:=⟨YQ _,by simpa using d,z⟩
 have m:∀(h:Heap)(u k:Nat),(fun(i:Nat)(h:Heap)=>i<=a.size/\dW h I l ((a.size:Int)-1-(i:Int))/\ã h l a) 0 h->(∀b o,b≠S->s.heap.get? b=some o->h.get? b=some o) ->h.get? S=some { cls:=.type "list",data:=.seq #[] u }->Z1 (u_ prog w) A (.builtin "list.extend.loop" ⟨[.ref S,.ref I,Y],[]⟩) R { s with heap:=h,toks:=k }:=by
  intro h u k KK G Q;refine codeAny_extend_loopS W.toS p S E Y a.size 0 _ #[] u rfl (YQ _) KK Q (ItemsOf.nil _) fun c L j y r IO=>?_;rw[Moved.eq_with y];refine K c.heap c.toks L j (fun b o g q e=>y.heap b o (fun U=>?_) (G b o g e)) r IO;rcases s_.mp U with P|U
  .exact g P
  .exact q (YA.mp U)
 unfold YZ;refine Q_a (ZN (T := "reversed") J ?_);have O:Ő (.ref S) (.ref I)=false:=by simp[Ő,F]
 have N:(Value.type "reversed" == Value.type "list")=false:=by decide
 have M:(Value.type "reversed" == Value.type "tuple")=false:=by decide
 simp only[O,N,M,Qfx,YE,Q_n];refine Q_a (GV d ?_);refine Q_a (YH (NQ d z p fun b k=>?_));refine wpAny_ite_split (fun _=>?_) (fun _=>e_ ⟨Zx Zk _,m _ C _ x (fun b o _ e=>e) t⟩);refine Q_a (ü ?_);refine Q_a ?_;refine Q_a (Zr t rfl ?_);have Z:=YM (Y6 (·.push Value.none)) t rfl;refine Zr (hz:=by seq_fits) Z rfl ?_;have LE:=YM (Y6 (·.pop)) Z rfl;refine e_ ⟨Zx Zk _,m _ _ _ ?_ (fun b o g e=>?_) LE⟩
 .refine W.frame 0 _ _ x fun b g o e=>?_;have B:b≠S:=fun h=>E (h▸g);exact(U_ _ _ (ZM B)).trans ((U_ _ _ (ZM B)).trans e)
 .exact(U_ _ _ (ZM g)).trans ((U_ _ _ (ZM g)).trans e)
theorem Tt(B:A.handled=none)(k:l≠I)(d:dW s.heap I l ((items.size:Int)-1))(t:ã s.heap l items)(z:items.size<=sizeLine)(H:∀h' c (L:Array Value),(∀b o,b≠I->s.heap.get? b=some o->h'.get? b=some o)->ć (fun i v=>items[items.size-1-i]? = some v) L items.size->Q L.toList { s with heap:=h',toks:=c }):p_ (u_ prog w) A (collect (.ref I)) Q E s:=by
 unfold collect;refine Q_a (Ķ (Y5 F.entry_proto_collect ?_));rw[Zw F.plain_proto_collect _];show p_ _ A.in1 (newList [] >>= fun l=>again (.builtin "list.__iadd__" ⟨[l,.ref I],[]⟩)) _ _ s;refine Q_a (Zc ?_);refine e_ ⟨Zx F.plain_list_iadd _,Y5 F.entry_list_iadd ?_⟩;rw[Zw F.plain_list_iadd _];show p_ _ A.in1 (YZ (.ref s.heap.objs.size) (.ref I) (.ref s.heap.objs.size)) _ _ _;have G:(s.heap.push { cls:=.type "list",data:=.seq ([]:List Value).toArray }).get? s.heap.objs.size=some { cls:=.type "list",data:=.seq #[] 0 }:=i_ _ rfl;have Y:∀h' c (L:Array Value) c',(∀b o,b≠I->s.heap.get? b=some o->h'.get? b=some o)->h'.get? s.heap.objs.size=some { cls:=.type "list",dict:=none,data:=.seq L c',slots:=#[] }->ć (fun i v=>items[items.size-1-i]? = some v) L items.size->p_ (u_ prog w) A (match Value.ref s.heap.objs.size with
  |Value.ref a=>do
    match (<-load a).data with
    |Data.seq u _=>pure u.toList
    |_=>Ż "internal:collect"
  |_=>Ż "internal:collect") Q E { s with heap:=h',toks:=c }:=fun h' c L c' m g U=>by show p_ _ A (load s.heap.objs.size >>= _) _ _ _;refine Q_a (ž g ?_);exact e_ (H h' c L m U)
 have ltI:I<s.heap.objs.size:=o_ d;have J:l<s.heap.objs.size:=let⟨_,e,_⟩:=t;o_ e;refine Z8 (Sr (A:=A) (R:=fun Z j=>Z=.ok (.ret (.ref s.heap.objs.size))/\∃h' c L c',j={ s with heap:=h',toks:=c }/\(∀b o,b≠I->s.heap.get? b=some o->h'.get? b=some o)/\h'.get? s.heap.objs.size=some { cls:=.type "list",dict:=none,data:=.seq L c',slots:=#[] }/\ć (fun i v=>items[items.size-1-i]? = some v) L items.size)
  (s:={ s with heap:=s.heap.push { cls:=.type "list",data:=.seq ([]:List Value).toArray } }) B k (a_ _ d) (let⟨o,e,r⟩:=t;⟨o,a_ _ e,r⟩) _ (YS ltI) (YS J) _ 0 G (fun h' c L c' m g U=>⟨rfl,h',c,L,c',rfl,fun b o C e=>m b o (z_ (o_ e)) C (a_ _ e),g,U⟩) z ⟨_,a_ _ d,rfl⟩) (fun fin j h=>?_) (fun e j h=>?_)
 .cases fin with
 |done f=>obtain⟨e,h',c,L,c',rfl,q,p,n⟩:=h;cases e;exact Y h' c L c' q p n
 |again c'=>exact⟨h.1,û h.2 fun r x y=>by obtain⟨rfl,h',c,L,c',rfl,q,p,n⟩:=y;exact Y h' c L c' q p n⟩
 .exact Q_g h.1 (by simp)
theorem UQ(I l:Addr)(a:Array Value)(m:a.size<=sizeLine) :
  ë (Zf.«tuple.__new__» ⟨[.type "tuple",.ref I],[]⟩)
   (fun A R s=>A.handled=none/\l≠I/\dW s.heap I l ((a.size:Int)-1)/\ã s.heap l a/\∀(h':Heap)(d:Nat)(c:Array Value),(∀b o,b≠I->s.heap.get? b=some o->h'.get? b=some o)->ć (fun i v=>a[a.size-1-i]? = some v) c a.size ->R (.ok (.ret (.ref h'.objs.size))) { s with heap:=h'.push { cls:=.type "tuple",data:=.seq c },toks:=d }):=
 .of_wp fun j w A R s h=>by
  obtain⟨q,g,f,n,h⟩:=h;have k:=sub_tuple_self;have Y:=init_tuple_lookup;have Z:=madeHere_tuple;have r:s.TypeIs (.ref I) "reversed" := ⟨_,f,rfl⟩
  have U:A.in1.handled=none:=q
  wp_walk using Q_b f,ZN r,Tt U g f n m
  intro h' d c p L;show p_ _ _ (Œ c.toList.toArray >>= fun v=>ret v) _ _ _;unfold Œ;refine Q_a (Zc ?_ (show c.toList.toArray.size<=sizeLine by simp only[QdF];rw[L.1];exact m));refine e_ ⟨_,rfl,?_⟩;have e:c.toList.toArray=c:=by simp
  rw[e];exact h h' d c p L
section
variable{X:Cx}{g:GE}{m:List Md}{a:Expr}{pos p pos2 p2:Pos}{fl:am->Res (List D)}{t:TA}
def C4(X:Cx):List V->Hp->VK->Prop:=fun xs H Q=>∃a ys,xs=[.ref a]/\cg X.K H a ys/\∀l,H l=none->Q (.ref l) (aO H l (.tup ys.reverse))
theorem Nw(P:X.calm=true)(Id:Gl X "tuple")(Cl:X.mg "tuple" = none)(O:Gl X "reversed")(M:X.mg "reversed" = none)(R:PA X [a] t)(hs:f_ [a] X.env=(false,eval a X.env)::f_ [] X.env:=by rfl)(y:f_ [.Call (.Name "reversed" p2) [a] [] pos2] X.env=(false,eval (.Call (.Name "reversed" p2) [a] [] pos2) X.env)::f_ [] X.env:=by rfl):PE X (.Call (.Name "tuple" p) [.Call (.Name "reversed" p2) [a] [] pos2] [] pos) (lH (C4 X) t):=by
 intro E s A H Q I h;refine Y3 (iq I Id Cl rfl ?_ (by decide) (by decide));refine YD ?_ y rfl;rw[y];refine Ŕ ?_;refine Y3 (iq I O M boot_reversed ?_ (by decide) (by decide));refine YD (aW (R pos2 E s A H _ I h) fun us g p=>?_) hs rfl;obtain⟨vs,H1,k,C,q1⟩:=p;obtain⟨a,f,rfl,K,q⟩:=q1;obtain⟨u,rfl,B⟩:=L2.bA C;cases B;obtain⟨d,m,G,hz⟩:=k.tuple K;have n:=Paired.length m;have Z:d.toArray.size<=sizeLine:=by grind
 have U:ã g.heap a d.toArray:=G;refine Od U Z fun IO=>?_;show p_ _ _ (spliced []) _ _ _;refine ŕ ?_;have BT:a<g.heap.objs.size:=let⟨_,e,_⟩:=U;o_ e;refine ġ F.called_tuple (by decide) (F.typeCall_tuple_1 _) (F.newCall_tuple_1 _) (fun i=>F.args_object_init_2 i _) F.entry_tuple_new
  (UQ g.heap.objs.size a d.toArray Z) ⟨k.ok.hd P,z_ BT,i_ _ rfl,(let⟨o,e,r⟩:=U;⟨o,a_ _ e,r⟩),fun T l c J L=>⟨⟨_,i_ _ rfl,rfl⟩,?_⟩⟩
 have z:=k.kept (t':=l) fun b o e=>J b o (z_ (o_ e)) (a_ _ e);have Y:ar f.reverse c.toList:=by
  have S:=L.1;have h2:c.toList.length=c.size:=YR;simp only[A_]at S;refine Bt (by grind) fun j v u W e2=>?_;have x:=L.2 j u (by grind);have N:j<f.length:=by grind
  rw[List.getElem?_reverse N]at W;simp only[A_,ŝ]at x;obtain⟨v',e3,e4⟩:=DL.Paired.get m x
  grind
 exact⟨.ref T.objs.size,_,z.laid (t':=l) (fun b o e=>a_ _ e) (q_ _) (show df X.prog X.w _ _ _ (.tup f.reverse)from⟨by grind,c.toList,Y,by rw[QdF];exact Ř _ _,_,i_ _ rfl,rfl⟩),rfl,q _ (z.hok.fresh (q_ _))⟩
def trvD:List D->Option D
|[.tup ds]=>some (.tup ds.reverse)
|_=>none
theorem Ln(y:X.calm=true)(L:Gl X "tuple")(Y:X.mg "tuple" = none)(x:Gl X "reversed")(v:X.mg "reversed" = none)(z:fF X g m [a] fl)(hs:f_ [a] X.env=(false,eval a X.env)::f_ [] X.env:=by rfl)(U:f_ [.Call (.Name "reversed" p2) [a] [] pos2] X.env=(false,eval (.Call (.Name "reversed" p2) [a] [] pos2) X.env)::f_ [] X.env:=by rfl):SE X g m (.Call (.Name "tuple" p) [.Call (.Name "reversed" p2) [a] [] pos2] [] pos) (fC fl trvD):=by
 refine eU ?_ (Nw y L Y x v z hs U);intro G H C E d Q k o e q;unfold trvD at e;split at e
 .cases e;cases o with
 |cons u t=>
  cases t;obtain⟨b,Z,rfl,hs,f⟩:=u.tup k;refine⟨b,Z,rfl,hs,fun l w=>?_⟩;have i:∀{a:List V}{b:List D}{c:List V}{d:List D},bJ X.K G a b->bJ X.K G c d->bJ X.K G (a++c) (b++d):=by
   intro a b c d B A
   induction B with
  |nil=>exact A
  |cons r _ h=>exact .cons r h
  have s:∀{Z:List V}{j:List D},bJ X.K G Z j->bJ X.K G Z.reverse j.reverse:=fun f=>by induction f with
  |nil=>exact .nil
  |cons r _ h=>rw[Qeu,Qeu];exact i h (.cons r .nil)
  have n:=Grow.newF k w (.tup (.inl bV) (s f));exact q _ _ _ n (.ref ga)
 .cases e
end
theorem XN.uniq{K:W.Frag}(h:XN K nm C)(k:(K.all fun e=>match e.2.data with|.cls U=>U.name != nm || e.1==c|_=>true)=true):C=c:=by
 obtain⟨o,U,d,b,a⟩:=h;have Z:(C,o)∈(K:List (Addr×Obj)):=by
  have L:∀l:List (Addr×Obj),l.lookup C=some o->(C,o)∈l:=by
   intro l
   induction l with
  |nil=>intro h;cases h
  |cons q l Y=>
    intro h;rw[ŧ]at h;split at h
    .rename_i hb;have:=í hb;cases h;rw[this];exact m_
    .exact k_ _ (Y h)
  exact L K d
 have:=Yy.mp k _ Z;simp only[b]at this;rw[a]at this;simpa using this
end DL
namespace HS
open PySem PySem.Spec PyProof.Rows
variable{prog:C_}{w:S_}{A:T_}{E:Value->c_->Prop}{s:c_}
theorem put_heap{h:Heap}(Y:h.get? a=some { cls:=.type "set",dict:=none,data:=.set Z U t }):(h.update a (đ L t')).get? a=some { cls:=.type "set",dict:=none,data:=.set L (U+1) t' }:=by have:=YM (đ L t') Y (by rfl);exact this
abbrev ledOf(w:S_):Bool:=! w.params.followText "set-order"
abbrev freshSet(led:Bool):Obj:={ cls:=.type "set",dict:=none,data:=.set #[] 0 (.fresh 0 0 led) }
theorem new_set(a:Value)(h:Q (.ref s.heap.objs.size) { s with heap:=s.heap.push (freshSet (ledOf w)) }):Z1 (u_ prog w) A (.call (.builtin "set.__new__") ⟨[.type "set",a],[]⟩) (wants Q E) s:=by
 refine Ų ?_;refine Q_a (Z6 (F.newCall_set_1 a) (e_ ⟨Zx F.plain_set_new _,Y5 F.entry_set_new ?_⟩));rw[Zw F.plain_set_new _];have L:=sub_set_self;unfold Zf.«set.__new__» Qff
 dsimp only
 wp_walk
 refine wpAny_askSetting (e_ ?_);simp only[newObj];exact Q_a (wpAny_alloc (e_ (e_ h)))
end HS
namespace HT
open PySem PySem.Spec PyProof.Rows SetTable
def gb(mask:Nat):Nat->Nat×Nat->Nat×Nat
|0,x=>x
|k+1,x=>gb mask k (leap mask x.1 x.2)
theorem o8(L:Nat):∀(a b:Nat)(x:Nat×Nat),gb L (a+b) x=gb L b (gb L a x)
|0,b,x=>by rw[Zs];rfl
|a+1,b,x=>by rw[Nat.add_right_comm];exact o8 L a b _
theorem yP(L:Nat):∀(k:Nat)(x:Nat×Nat),(gb L k x).2=x.2/32^k
|0,x=>by simp[gb]
|k+1,x=>by show(gb L k _).2=_;rw[yP L k];show x.2/32/32^k=_;rw[Nat.div_div_eq_div_mul,Nat.pow_succ,Ň]
theorem E8(L:Nat):∀(k:Nat)(x:Nat×Nat),x.1<=L->(gb L k x).1<=L
|0,x,h=>h
|k+1,x,_=>E8 L k _ (ZT (YU _ (ĉ _)))
def M3:List Nat:=[7,31,127]
def qC(mask:Nat):Nat->Nat->List Nat
|0,_=>[]
|n+1,i=>i::qC mask n ((i*5+1)%(mask+1))
theorem Fi(L:Nat):∀(n i k:Nat),k<n->(qC L n i)[k]? = some (gb L k (i,0)).1
|n+1,i,0,_=>rfl
|n+1,i,k+1,h=>by show(qC L n _)[k]? = _;rw[Fi L n _ k (by omega)];show _=some (gb L k _).1;unfold leap;simp
theorem yV(L:Nat):∀(n i:Nat),(qC L n i).length=n
|0,_=>rfl
|n+1,i=>Q_h (· + 1) (yV L n _)
theorem K4:(M3.all fun m=>decide (gb m (m+1) (0,0)=(0,0))&&(d_ (m+1)).all fun j=>(qC m (m+1) 0).contains j)=true:=by decide+kernel
theorem GA(U:m∈M3)(Z:j<=m):∃k,k<=m/\gb m k (0,0)=(j,0):=by have h:=Yy.mp K4 m U;rw[R_]at h;have Y:=Yy.mp h.2 j (n_.mpr (by omega));obtain⟨k,L,e⟩:=P_ (Za.mp Y);rw[yV]at L;have:=Fi m (m+1) 0 k L;rw[g_ (by rw[yV];exact L),e]at this;refine⟨k,by omega,ř (K_ this).symm ?_⟩;rw[yP];simp
theorem O7(L:m∈M3)(d:i<=m)(c:j<=m):∃k,k<=m/\(gb m k (i,0)).1=j:=by
 obtain⟨a,f,Z⟩:=GA L d;obtain⟨b,e,Y⟩:=GA L c;by_cases h:a<=b
 .refine⟨b-a,by omega,?_⟩;rw[<-Z,<-o8,show a+(b-a)=b by omega,Y]
 .refine⟨b+(m+1)-a,by omega,?_⟩;have U:=Yy.mp K4 m L;rw[R_]at U;rw[<-Z,<-o8,show a+(b+(m+1)-a)=(m+1)+b by omega,o8,Q_j U.1,Y]
theorem D7(L:m∈M3)(Y:i<=m)(hq:q<2^64)(U:j<=m):∃k,1<=k/\k<=m+13/\(gb m k (i,q)).1=j:=by
 have Z:(gb m 13 (i,q)).2=0:=by rw[yP];exact Nat.div_eq_of_lt (B_ hq (by decide))
 obtain⟨k,a,e⟩:=O7 L (E8 m 13 (i,q) Y) U;refine⟨13+k,by omega,by omega,?_⟩;rw[o8];rw[<-e,<-Z]
theorem mem_M3(h:m∈M3):m=7\/m=31\/m=127:=by simpa[M3]using h
theorem Fb:∀{a l:List Nat},a.Nodup->(∀x∈a,x∈l)->a.length<=l.length
|[],_,_,_=>YQ _
|x::a,l,U,h=>by
  have L:=ZV.mp U;have:=Fb (l:=l.erase x) L.2 fun y Y=>(List.mem_erase_of_ne (by grind)).mpr (by simp_all)
  grind
theorem Qv{l:List Nat}(h:l.length<=m):∃j,j<=m/\j∉l:=by
 apply Zl;intro U;have L:=fun j Y=>Zl fun z=>U ⟨j,ZT (n_.mp Y),z⟩;have:=Fb Ù L
 grind
variable{t:ç}{hashAt:Nat->Int}{h:Int}
theorem slot_cases(L:t.dummies = #[])(j:Nat):(t.slot j=.empty/\True)\/∃i,t.slot j=.live i/\t.place[i]? = some j:=by
 unfold Qfz;simp only;by_cases e:(t.place[below t.place j]? == some j)=true
 .rw[Q_e e];exact .inr ⟨_,rfl,by simpa using e⟩
 .rw[Q_f e];have:has t.dummies j=false:=by rw[L];unfold has;simp
  rw[this];exact .inl ⟨rfl,trivial⟩
theorem Ii(U:t.dummies = #[])(L:j∉t.place.toList):t.slot j=.empty:=by
 rcases slot_cases U j with e|⟨i,_,e⟩
 .exact e.1
 .exact Q_g (by rw[<-N_]at e;exact YV e) L
abbrev go(t:ç)(hashAt:Nat->Int)(h:Int):=ZE t hashAt h
theorem sd(L:t.dummies = #[])(e:go t hashAt h (n+1) p=none):t.slot p.j≠.empty/\go t hashAt h n (t.advance p)=none:=by
 unfold go ZE at e;rcases slot_cases L p.j with z|⟨i,z,_⟩
 .rw[z.1]at e;cases e
 .rw[z]at e ⊢;simp only at e;split at e
  .cases e
  .exact⟨fun z=>Slot.noConfusion z,e⟩
theorem zt(U:t.dummies = #[]):∀{n m:Nat}{p:Probe},go t hashAt h n p=none->m<=n->go t hashAt h m p=none
|n,0,p,_,_=>rfl
|0,m+1,p,_,L=>Q_g L (by omega)
|n+1,m+1,p,e,L=>by
  obtain⟨Z,Y⟩:=sd U e;have a:=zt U Y (Qbq L);unfold go ZE at e ⊢;rcases slot_cases U p.j with z|⟨i,z,_⟩
  .exact Q_g z.1 Z
  grind
def Ew(t:ç)(p:Probe):Probe:={ p with j:=(leap t.mask p.i p.perturb).1,more:=runEnd t.mask (leap t.mask p.i p.perturb).1-(leap t.mask p.i p.perturb).1,i:=(leap t.mask p.i p.perturb).1,perturb:=(leap t.mask p.i p.perturb).2 }
theorem E1(U:t.dummies = #[]):∀(more n:Nat)(p:Probe),p.more=more->go t hashAt h (n+more+1) p=none->go t hashAt h n (Ew t p)=none
|0,n,p,L,e=>by have:=(sd U e).2;unfold QcO at this;rw[L,Q_f (by decide)]at this;exact this
|more+1,n,p,L,e=>by have:=(sd U e).2;unfold QcO at this;rw[L,Q_e (by omega)]at this;exact E1 U more n { p with j:=p.j+1,more:=more+1-1 } rfl this
theorem S2(t:ç)(p:Probe):(Ew t p).more<=9:=by show runEnd t.mask _-_<=9;unfold runEnd;split <;> omega
theorem FM(U:t.dummies = #[]):∀(K:Nat)(p:Probe),p.more<=9->go t hashAt h (10*K+1) p=none->∀k,1<=k->k<=K->t.slot (gb t.mask k (p.i,p.perturb)).1≠.empty
|0,p,_,_,k,Y,b=>Q_g Y (by omega)
|K+1,p,c,e,k,Y,b=>by
  have Z:go t hashAt h (10*K+1) _=none:=E1 U p.more _ p rfl (zt U e (by omega));obtain⟨L,rfl⟩:∃L,k=L+1:=⟨k-1,by omega⟩
  by_cases a:L=0
  .subst a;exact(sd U Z).1
  .exact FM U K _ (S2 t p) Z L (by omega) (by omega)
theorem Gr(h:Int):bits h<2^64:=by
 unfold bits
 grind
structure Tb(t:ç):Prop where
 mask:t.mask∈M3
 dum:t.dummies = #[]
 room:t.place.size<=t.mask
theorem QN(T:Tb t):go t hashAt h (10*turns t.mask) (t.probeStart h)≠none:=by
 intro e;obtain⟨j,Y,U⟩:=Qv (l:=t.place.toList) (by simpa using T.room);have Z:bits h%(t.mask+1)<=t.mask:=ZT (YU _ (ĉ _));obtain⟨k,L,b,a⟩:=D7 T.mask Z (Gr h) Y;refine FM T.dum (t.mask+14) _ ?_ (zt T.dum e (by unfold turns;omega)) k L (by omega) ?_
 .show runEnd t.mask _-_<=9;unfold runEnd;split <;> omega
 .show t.slot (gb t.mask k (bits h%(t.mask+1),bits h)).1=.empty;rw[a];exact Ii T.dum U
theorem zr:∀{L i q j:Nat},V_ U owner L i q=some j->owner[j]? = some none
|0,_,_,_,e=>by cases e
|L+1,i,q,j,e=>by
  rw[V_]at e;split at e
  .rename_i k hk;cases e;have:=List.find?_some hk;rw[Ze]at this;cases z:owner[i+k]? with
  |none=>rw[z]at this;cases this
  |some o=>rw[z]at this;cases o with
   |none=>rfl
   |some v=>cases this
  .exact zr e
theorem IK:∀{L i q:Nat},V_ U owner L i q=none->∀k,k<L->owner[(gb U k (i,q)).1]?≠some none
|0,_,_,_,k,Y=>Q_g Y (by omega)
|L+1,i,q,e,k,Y=>by
  rw[V_]at e;split at e
  .cases e
  .rename_i hf;cases k with
  |zero=>intro z;have z:owner[i]? = some none:=z;have:=List.find?_eq_none.mp hf 0 (n_.mpr (by unfold runEnd;split <;> omega));rw[Nat.add_zero,Ze,z]at this;exact this rfl
  |succ k=>exact IK e k (by omega)
theorem FK:∀{l:List (Option Nat)}{j:Nat},l[j]? = some none->((l.set j (some v)).filterMap id).length=(l.filterMap id).length+1/\∀x∈(l.set j (some v)).filterMap id,x=v\/x∈l.filterMap id
|[],_,h=>by simp at h
|o::l,0,h=>by simp at h;subst h;simp
|o::l,j+1,h=>by obtain⟨Y,U⟩:=FK (v:=v) (l:=l) (j:=j) (by simpa using h);rw[List.set_cons_succ];cases o with
 |none=>exact⟨Y,U⟩
 |some a=>
   have c:∀l:List (Option Nat),(some a::l).filterMap id=a::l.filterMap id:=fun _=>rfl;rw[c,c];refine⟨by rw[I_,Y,I_],fun x L=>?_⟩;rcases s_.mp L with e|L
   .exact .inr (by rw[e];exact m_)
   .rcases U x L with e|e
    .exact .inl e
    .exact .inr (k_ _ e)
theorem FJ:∀{l:List (Option Nat)},(l.filterMap id).length<l.length->∃j,j<l.length/\l[j]? = some none
|[],h=>by simp at h
|none::l,h=>⟨0,by simp,rfl⟩
|some a::l,h=>by have c:(some a::l).filterMap id=a::l.filterMap id:=rfl;rw[c,I_,I_]at h;obtain⟨j,L,e⟩:=FJ (l:=l) (by omega);exact⟨j+1,by grind,by simpa using e⟩
structure Ow(mask:Nat)(owner:Array (Option Nat))(k:Nat):Prop where
 size:owner.size=mask+1
 cnt:(owner.toList.filterMap id).length=k
 lt:∀x∈owner.toList.filterMap id,x<k
abbrev ke(mask:Nat)(acc:Option (Array (Option Nat)×Nat))(h:Int):Option (Array (Option Nat)×Nat):=do
 let(owner,k) <-acc;let j <-V_ mask owner (turns mask) (bits h%(mask+1)) (bits h)
 pure (owner.setIfInBounds j (some k),k+1)
theorem PB(d:U∈M3)(O:Ow U owner k)(m:k<=U)(h:Int):∃owner',ke U (some (owner,k)) h=some (owner',k+1)/\Ow U owner' (k+1):=by
 have L:∃j,V_ U owner (turns U) (bits h%(U+1)) (bits h)=some j:=by cases e:V_ U owner (turns U) (bits h%(U+1)) (bits h)with
 |some j=>exact⟨j,rfl⟩
 |none=>obtain⟨j,Z,Y⟩:=FJ (l:=owner.toList) (by rw[O.cnt,YR,O.size];omega);rw[YR,O.size]at Z;obtain⟨c,i,g,f⟩:=D7 d (ZT (YU (bits h) (ĉ U))) (Gr h) (ZT Z);have:=IK e c (by unfold turns;omega);rw[f]at this;rw[N_]at Y;exact Q_g Y this
 obtain⟨j,Y⟩:=L;have Z:=zr Y;refine⟨owner.setIfInBounds j (some k),?_,?_⟩
 .show(V_ U owner (turns U) (bits h%(U+1)) (bits h)).bind _=_;rw[Y];rfl
 .obtain⟨h1,h2⟩:=FK (v:=k) (l:=owner.toList) (j:=j) (by rw[N_];exact Z);have b:(owner.setIfInBounds j (some k)).toList=owner.toList.set j (some k):=Array.toList_setIfInBounds;refine⟨by rw[Qcz];exact O.size,by rw[b,h1,O.cnt],fun x a=>?_⟩;rw[b]at a;rcases h2 x a with e|e
  .omega
  .have:=O.lt x e;omega
theorem Gj(U:L∈M3):∀(hs:List Int){owner:Array (Option Nat)}{k:Nat},Ow L owner k->k+hs.length<=L+1->∃owner',hs.foldl (ke L) (some (owner,k))=some (owner',k+hs.length)/\Ow L owner' (k+hs.length)
|[],owner,k,O,_=>⟨owner,rfl,O⟩
|h::hs,owner,k,O,Y=>by
  rw[I_]at Y;obtain⟨b,d,Z⟩:=PB U O (by omega) h;obtain⟨a,c,e⟩:=Gj U hs Z (by omega)
  grind
theorem MC(U:L∈M3)(hs:Array Int)(a:hs.size<=L):∃owner,layClean L hs=some owner/\Ow L owner hs.size:=by
 have Y:Ow L (Č (L+1) none) 0:=by
  have e:(Č (L+1) (none:Option Nat)).toList.filterMap id=[]:=by simp_all
  exact⟨by simp,by rw[e];rfl,fun x Z=>by simp_all⟩
 obtain⟨o,e,O⟩:=Gj U hs.toList Y (by grind);rw[Zs,YR]at e O;unfold layClean
 grind
theorem PV(owner:Array (Option Nat)):(((d_ owner.size).filterMap fun j=>(owner.getD j none).map (j,·)).map (·.2))=owner.toList.filterMap id:=by
 rw[List.map_filterMap];have:(d_ owner.size).map (fun j=>owner.getD j none)=owner.toList:=by
  refine Ĭ fun j=>?_;rw[l_];by_cases L:j<owner.size
  .rw[Y_ L,Ŗ,Ze,N_,w_ L];rfl
  simp_all
 rw[<-this,Qd4];congr 1;funext j;show Qfg (·.2) ((owner.getD j none).map (j,·))=owner.getD j none;cases owner.getD j none <;> rfl
theorem QW(a:sizeAbove wanted-1∈M3)(b:hs.size<=sizeAbove wanted-1):∃t' L,t.relaid hs wanted=some (t',L)/\t'.mask=sizeAbove wanted-1/\t'.dummies = #[]/\t'.place.size=hs.size/\L.size=hs.size/\∀x∈L.toList,x<hs.size:=by
 obtain⟨U,e,O⟩:=MC a hs b;have Y:=PV U;rw[O.size]at Y;refine⟨_,_,by unfold relaid laid;rw[e];rfl,rfl,rfl,?_,?_,fun x Z=>?_⟩
 .have:=Q_h Z5 Y;rw[b_,O.cnt]at this;simpa using this
 .have:=Q_h Z5 Y;rw[b_,O.cnt]at this;simpa using this
 .have hx':=Z;rw[Y]at hx';exact O.lt x hx'
theorem P7(n:xs.toList.Pairwise (· < ·)):∀(L lo U:Nat),U<=xs.size->lo<=U->U-lo<=L->(∀k v,xs[k]? = some v->k<lo->v<j)->(∀k v,xs[k]? = some v->U<=k->j<=v) ->(∀k v,xs[k]? = some v->k<below.go xs j L lo U->v<j)/\∀k v,xs[k]? = some v->below.go xs j L lo U<=k->j<=v:=by
 have g:∀{a b u v:Nat},xs[a]? = some u->xs[b]? = some v->a<b->u<v:=fun{a b u v} ea eb h=>by rw[<-N_]at ea eb;obtain⟨Y,rfl⟩:=h_.mp ea;obtain⟨d,rfl⟩:=h_.mp eb;exact Qck.mp n a b Y d h
 intro L
 induction L with
|zero=>
  intro lo U Y d r c Z;have:U=lo:=by omega
  subst this;exact⟨c,Z⟩
|succ f i=>
  intro lo U Y d r c Z;unfold below.go;by_cases l:lo<U
  .rw[Q_e l];have o:(lo+U)/2<xs.size:=by omega
   have s:xs[(lo+U)/2]? = some xs[(lo+U)/2]:=w_ o;have q:xs.getD ((lo+U)/2) j=xs[(lo+U)/2]:=by simp_all
   show(∀k v,_->k<(if xs.getD ((lo+U)/2) j<j then _ else _)->_)/\∀k v,_->(if xs.getD ((lo+U)/2) j<j then _ else _)<=k->_;rw[q];by_cases m:xs[(lo+U)/2]<j
   .rw[Q_e m];refine i _ _ Y (by omega) (by omega) (fun k v e p=>?_) Z;by_cases z:k=(lo+U)/2
    .grind
    grind
   .rw[Q_f m];refine i _ _ (by omega) (by omega) (by omega) c fun k v e p=>?_;by_cases z:k=(lo+U)/2
    .grind
    grind
  .rw[Q_f l]
   grind
theorem Hv(j:Nat)(L:xs.toList.Pairwise (· < ·)):(∀k v,xs[k]? = some v->k<below xs j->v<j)/\∀k v,xs[k]? = some v->below xs j<=k->j<=v:=P7 L _ 0 xs.size (q_ _) (YQ _) (by omega) (by simp_all) fun k v e h=>by simp_all
theorem yZ(U:t.place.toList.Pairwise (· < ·))(e:t.place[k]? = some j):t.slot j=.live k:=by
 obtain⟨a,f⟩:=Hv j U;have h:¬ k<below t.place j:=fun z=>YY _ (a k j e z);have b:below t.place j=k:=by
  apply Zl;intro z;have L:below t.place j<k:=by omega
  obtain⟨Z,d⟩:=Y7.mp e;have Y:below t.place j<t.place.size:=by omega
  have g:=w_ Y;have c:=Qck.mp U _ k (by simpa using Y) (by simpa using Z) L
  grind
 unfold Qfz
 grind
theorem QT(Y:xs.toList.Pairwise (· < ·))(d:j∉xs.toList):(insertAt xs (below xs j) j).toList.Pairwise (· < ·):=by
 obtain⟨g,c⟩:=Hv j Y;rw[Qa4];refine QdE.mpr ⟨Y.take,List.pairwise_cons.mpr ⟨fun b U=>?_,Y.drop⟩,fun a f b U=>?_⟩
 .obtain⟨i,hi,e⟩:=P_ U;rw[Qev]at e;have:=c (below xs j+i) b (by rw[<-N_,h_];exact⟨_,e⟩) (Ħ _ _);have:j≠b:=fun z=>d (z▸QdG U);omega
 .obtain⟨i,hi,e⟩:=P_ f;rw[List.getElem_take]at e;have Z:i<below xs j:=by rw[Zj]at hi;omega
  have L:=g i a (by rw[<-N_,h_];exact⟨_,e⟩) Z;rcases s_.mp U with rfl|U
  .exact L
  .obtain⟨i',hi',e'⟩:=P_ U;rw[Qev]at e';have:=c (below xs j+i') b (by rw[<-N_,h_];exact⟨_,e'⟩) (Ħ _ _);omega
def j7(mk:Nat)(p:Probe):Probe:=if p.more>0 then{ p with j:=p.j+1,more:=p.more-1 }else{ p with j:=(leap mk p.i p.perturb).1,more:=runEnd mk (leap mk p.i p.perturb).1-(leap mk p.i p.perturb).1,i:=(leap mk p.i p.perturb).1,perturb:=(leap mk p.i p.perturb).2 }
def wk(mk:Nat)(p:Probe):Nat->Probe
|0=>p
|m+1=>j7 mk (wk mk p m)
abbrev st0(mk i q:Nat):Probe:={ j:=i,more:=runEnd mk i-i,i:=i,perturb:=q,dummy:=none }
abbrev gR(mk:Nat)(h:Int):Probe:=st0 mk (bits h%(mk+1)) (bits h)
theorem rO(t:ç)(p:Probe):t.advance p=j7 t.mask p:=by unfold QcO j7;split <;> rfl
theorem rS(L:Nat)(p:Probe)(a:Nat):∀b,wk L p (a+b)=wk L (wk L p a) b
|0=>rfl
|b+1=>Q_h _ (rS L p a b)
theorem F0(L:Nat)(p:Probe):∀m,(wk L p m).dummy=p.dummy
|0=>rfl
|m+1=>by show(j7 L _).dummy=_;unfold j7;split <;> exact F0 L p m
theorem rT(L:Nat)(p:Probe):∀m,m<=p.more->wk L p m={ p with j:=p.j+m,more:=p.more-m }
|0,_=>rfl
|m+1,h=>by
  show j7 L _=_;rw[rT L p m (by omega)];unfold j7
  grind
def lN(mk:Nat)(occ:Nat->Prop)(h:Int)(j:Nat):Prop:=∃m,m<10*turns mk/\(wk mk (gR mk h) m).j=j/\∀m',m'<m->occ (wk mk (gR mk h) m').j
theorem lN.mono(x:lN Y U h j)(k:∀x,U x->L x):lN Y L h j:=by obtain⟨m,d,c,b⟩:=x;exact⟨m,d,c,fun Z a=>k _ (b Z a)⟩
abbrev mQ(owner:Array (Option Nat))(x:Nat):Prop:=∃v,owner[x]? = some (some v)
theorem L9(L:x<owner.size)(h:¬ (owner.getD x (some 0)).isNone=true):mQ owner x:=by rw[Ze,w_ L]at h;cases e:owner[x]with
|none=>rw[e]at h;exact Q_g rfl h
|some v=>exact⟨v,by rw[w_ L,e]⟩
theorem Nm(h:i<=L):runEnd L i<=L/\i<=runEnd L i/\runEnd L i-i<=9:=by unfold runEnd;split <;> omega
theorem HB(hz:owner.size=U+1):∀{L i q j:Nat},i<=U->V_ U owner L i q=some j->∃m,m<10*L/\(wk U (st0 U i q) m).j=j/\∀m',m'<m->mQ owner (wk U (st0 U i q) m').j
|0,_,_,_,_,e=>by cases e
|L+1,i,q,j,r,e=>by
  obtain⟨u,t,s⟩:=Nm r;have a:∀k,k<=runEnd U i-i->¬ (owner.getD (i+k) (some 0)).isNone=true->mQ owner (wk U (st0 U i q) k).j:=fun k Z o=>by rw[rT U _ k Z];exact L9 (show i+k<owner.size by omega) o
  rw[V_]at e;split at e
  .rename_i k Z;cases e;obtain⟨_,b,y,g,x⟩:=List.find?_eq_some_iff_append.mp Z;have p:k<runEnd U i+1-i:=n_.mp (List.mem_of_find?_eq_some Z);have w:∀m',m'<k->m'∈b:=fun m' c=>by
    have f:b.length=k:=by
     have:=Q_h (fun l=>l[b.length]?) g
     grind
    have:=Q_h (fun l=>l[m']?) g
    grind
   refine⟨k,by omega,by rw[rT U _ k (by grind)],fun m' c=>a m' (by omega) ?_⟩
   grind
  .rename_i hf;have f:(leap U i q).1<=U:=ZT (YU _ (ĉ _));obtain⟨m,v,n,h⟩:=HB hz f e;have Y:wk U (st0 U i q) (runEnd U i-i+1)=st0 U (leap U i q).1 (leap U i q).2:=by
    show j7 U (wk U _ _)=_;rw[rT U _ _ (q_ _)];unfold j7
    grind
   refine⟨runEnd U i-i+1+m,by omega,by rw[rS,Y];exact n,fun m' c=>?_⟩;by_cases z:m'<=runEnd U i-i
   .grind
   .obtain⟨d,rfl⟩:∃d,m'=runEnd U i-i+1+d:=⟨m'-(runEnd U i-i+1),by omega⟩
    rw[rS,Y];exact h d (by omega)
structure Ow2(mask:Nat)(hs:List Int)(owner:Array (Option Nat))(k:Nat):Prop where
 size:owner.size=mask+1
 all:∀k',k'<k->∃j:Nat,owner[j]? = some (some k')
 rch:∀j k':Nat,owner[j]? = some (some k')->∀h,hs[k']? = some h->lN mask (mQ owner) h j
theorem Ee:∀(l:List Int){owner owner':Array (Option Nat)}{k k':Nat},Ow2 Z hs owner k->(∀i,l[i]? = hs[k+i]?)->l.foldl (ke Z) (some (owner,k))=some (owner',k')->k'=k+l.length/\Ow2 Z hs owner' k'
|[],owner,owner',k,k',O,_,e=>by cases e;exact⟨rfl,O⟩
|h::l,owner,owner',k,k',O,o,e=>by
  rw[ě]at e;have c:∀l:List Int,l.foldl (ke Z) none=none:=fun l=>by induction l with
  |nil=>rfl
  |cons a l r=>exact r
  cases g:V_ Z owner (turns Z) (bits h%(Z+1)) (bits h)with
 |none=>
   have:ke Z (some (owner,k)) h=none:=by show(V_ Z owner (turns Z) (bits h%(Z+1)) (bits h)).bind _=_;rw[g];rfl
   rw[this,c]at e;cases e
 |some j=>
   have w:ke Z (some (owner,k)) h=some (owner.setIfInBounds j (some k),k+1):=by show(V_ Z owner (turns Z) (bits h%(Z+1)) (bits h)).bind _=_;rw[g];rfl
   rw[w]at e;have p:=zr g;have U:j<owner.size:=(Y7.mp p).1;have b:∀x,(owner.setIfInBounds j (some k))[x]? = if j=x then some (some k)else owner[x]?:=fun x=>by
    rw[Array.getElem?_setIfInBounds];by_cases z:j=x
    .rw[Q_e z,Q_e z,Q_e U]
    .rw[Q_f z,Q_f z]
   have n:∀x,mQ owner x->mQ (owner.setIfInBounds j (some k)) x:=fun x ⟨v,u⟩=>by
    rw[mQ,b];by_cases z:j=x
    .exact⟨k,Q_e z⟩
    .exact⟨v,by rw[Q_f z];exact u⟩
   have s:hs[k]? = some h:=by have:=o 0;simpa using this.symm
   have y:Ow2 Z hs (owner.setIfInBounds j (some k)) (k+1):=by
    refine⟨by rw[Qcz];exact O.size,fun L Y=>?_,fun f L d t m=>?_⟩
    .by_cases z:L=k
     .exact⟨j,by rw[b,Q_e rfl,z]⟩
     .obtain⟨f,ej⟩:=O.all L (by omega);exact⟨f,by rw[b,Q_f (by rintro rfl;rw[p]at ej;cases ej)];exact ej⟩
    .rw[b]at d;by_cases z:j=f
     .rw[Q_e z]at d;cases d;rw[s]at m;cases m;subst z;exact lN.mono (HB O.size (ZT (YU _ (ĉ _))) g) n
     .rw[Q_f z]at d;exact(O.rch f L d t m).mono n
   obtain⟨A,q⟩:=Ee l y (fun i=>by have:=o (i+1);rw[List.getElem?_cons_succ]at this;rw[this];congr 1;omega) e;exact⟨by rw[I_];omega,q⟩
theorem F1{Z:Type}{U:Array Z}:∀{l:List (Nat×Nat)},(∀x∈l,x.2<U.size)->∀q∈(l.map (·.1)).zip ((l.map (·.2)).filterMap (U[·]?)),∃x∈l,q.1=x.1/\U[x.2]? = some q.2
|[],_,q,L=>by cases L
|a::l,h,q,L=>by
  have Y:=h a m_;rw[Yx,Yx,QcA (b:=U[a.2]) (w_ Y),Qd9]at L;rcases s_.mp L with rfl|L
  .exact⟨a,m_,rfl,w_ Y⟩
  .obtain⟨x,h1,h2⟩:=F1 (fun x c=>h x (k_ _ c)) q L;exact⟨x,k_ _ h1,h2⟩
theorem Nd{d:Array (Int×Value)}(l:∀x∈L.toList,x<d.size)(e:t.relaid (d.map (·.1)) wanted=some (t',L)):t'.place.toList.Pairwise (· < ·)/\(∀x∈d.toList,x∈L.toList.filterMap (d[·]?))/\∀q∈t'.place.toList.zip (L.toList.filterMap (d[·]?)),lN t'.mask (·∈t'.place.toList) q.2.1 q.1:=by unfold relaid laid at e;cases c:layClean (sizeAbove wanted-1) (d.map (·.1))with
|none=>rw[c]at e;cases e
|some Z=>
  rw[c]at e;cases e;generalize sizeAbove wanted-1=Y at c l ⊢;have O:Ow2 Y (d.map (·.1)).toList Z d.size:=by
   unfold layClean at c;rw[<-Array.foldl_toList]at c;have C:Ow2 Y (d.map (·.1)).toList (Č (Y+1) none) 0:=⟨by simp,fun _ h=>Q_g h (Ņ _),fun j k e=>by rw[Array.getElem?_replicate]at e;split at e <;> cases e⟩
   cases o:É (ke Y) (some (Č (Y+1) none,0)) (d.map (·.1)).toList with
  |none=>have c:Qfg _ (É (ke Y) (some (Č (Y+1) none,0)) (d.map (·.1)).toList)=_:=c;rw[o]at c;cases c
  |some r=>have c:Qfg _ (É (ke Y) (some (Č (Y+1) none,0)) (d.map (·.1)).toList)=_:=c;rw[o]at c;cases c;obtain⟨s,p⟩:=Ee (owner':=r.1) (k':=r.2) _ C (fun i=>by rw[Zs]) o;rw[s,Zs,YR,QdH]at p;exact p
  have f:∀{j k:Nat},(j,k)∈((d_ (Y+1)).filterMap fun j=>(Z.getD j none).map (j,·))↔Z[j]? = some (some k):=fun{j k}=>by
   rw[List.mem_filterMap];constructor
   .rintro⟨x,hx,ex⟩
    have n:x<Z.size:=by rw[O.size];exact n_.mp hx
    rw[Ze,w_ n,Option.getD_some]at ex;cases c:Z[x]with
   |none=>rw[c]at ex;cases ex
   |some v=>rw[c]at ex;cases ex;rw[w_ n,c]
   .intro ej;have A:=(Y7.mp ej).1;exact⟨j,n_.mpr (by rw[<-O.size];exact A),by rw[Ze,ej];rfl⟩
  generalize B:((d_ (Y+1)).filterMap fun j=>(Z.getD j none).map (j,·))=g at f l ⊢;have m:(g.map (·.1)).Pairwise (· < ·):=by rw[<-B,ĭ];refine List.pairwise_filterMap.mpr (List.pairwise_lt_range.imp fun{a b} hab x hx y hy=>?_);obtain⟨_,_,rfl⟩:=Qbn.mp hx;obtain⟨_,_,rfl⟩:=Qbn.mp hy;exact hab
  have U:∀x∈g,x.2<d.size:=fun x hx=>l x.2 (F_.mpr ⟨x,hx,rfl⟩);refine⟨m,fun x hx=>?_,fun q z=>?_⟩
  .obtain⟨i,hi,ei⟩:=P_ hx;rw[YR]at hi;obtain⟨j,ej⟩:=O.all i hi;refine Ė.mpr ⟨i,F_.mpr ⟨(j,i),f.mpr ej,rfl⟩,?_⟩;rw[w_ hi,<-ei,QdI]
  .obtain⟨x,hx,q1,q2⟩:=F1 U q z;have w:=O.rch x.1 x.2 (f.mp hx) q.2.1 (by rw[N_,Array.getElem?_map,q2];rfl);rw[q1];exact w.mono fun y ⟨v,u⟩=>F_.mpr ⟨(y,v),f.mpr u,rfl⟩
theorem NP(c:t.dummies = #[]){st:Probe}(U:st.dummy=none)(k:∀m,m<M->t.slot (wk t.mask st m).j≠.empty)(b:t.slot (wk t.mask st M).j=.empty\/∃i,t.slot (wk t.mask st M).j=.live i/\hashAt i=h):∀(d m L:Nat),m+d=M->d<L->(∃m' i,m<=m'/\m'<=M/\t.slot (wk t.mask st m').j=.live i/\go t hashAt h L (wk t.mask st m)=some (.candidate (wk t.mask st m').j i (wk t.mask st (m'+1))))\/t.slot (wk t.mask st M).j=.empty/\go t hashAt h L (wk t.mask st m)=some (.empty (wk t.mask st M).j none):=by
 intro d
 induction d with
|zero=>
  intro m L Z a;obtain⟨f,rfl⟩:∃f,L=f+1:=⟨L-1,by omega⟩
  have:m=M:=by omega
  subst this;rcases b with e|⟨i,e,Y⟩
  .refine .inr ⟨e,?_⟩;unfold go ZE;rw[e];rw[F0,U]
  .refine .inl ⟨m,i,q_ _,q_ _,e,?_⟩;unfold go ZE;rw[e];simp only;rw[Q_e (by rw[Y];simp),rO];rfl
|succ d g=>
  intro m L Z a;obtain⟨f,rfl⟩:∃f,L=f+1:=⟨L-1,by omega⟩
  rcases slot_cases c (wk t.mask st m).j with z|⟨i,z,_⟩
  .grind
  .by_cases Y:(hashAt i==h)=true
   .refine .inl ⟨m,i,q_ _,by omega,z,?_⟩;unfold go ZE;rw[z];simp only;rw[Q_e Y,rO];rfl
   .have e:go t hashAt h (f+1) (wk t.mask st m)=go t hashAt h f (wk t.mask st (m+1)):=by unfold go;rw[ZE,z];simp only;rw[Q_f Y,rO];rfl
    grind
theorem PL(e:t.dummies = #[]){st:Probe}(U:st.dummy=none)(a:∀m,m<M->t.slot (wk t.mask st m).j≠.empty)(Z:m+d=M)(b:d<L)(Y:go t hashAt h L (wk t.mask st m)=R)(c:t.slot (wk t.mask st M).j=.empty\/∃i,t.slot (wk t.mask st M).j=.live i/\hashAt i=h):(∃m' i,m<=m'/\m'<=M/\t.slot (wk t.mask st m').j=.live i/\R=some (.candidate (wk t.mask st m').j i (wk t.mask st (m'+1))))\/t.slot (wk t.mask st M).j=.empty/\R=some (.empty (wk t.mask st M).j none):=by subst Y;exact NP e U a c d m L Z b
theorem Ik(L:t.dummies = #[]):∀{n:Nat}{p:Probe}{e:Met},go t (fun _=>h+1) h n p=some e->∃M,M<n/\t.slot (wk t.mask p M).j=.empty/\∀m,m<M->t.slot (wk t.mask p m).j≠.empty
|0,_,_,q=>by cases q
|n+1,p,e,q=>by
  rcases slot_cases L p.j with z|⟨i,z,_⟩
  .exact⟨0,by omega,z.1,fun m h=>Q_g h (Ņ _)⟩
  .unfold go at q;rw[ZE,z]at q;simp only at q;rw[Q_f (by simp;omega),rO]at q;obtain⟨M,b,Y,a⟩:=Ik L q;have U:∀m,wk t.mask p (m+1)=wk t.mask (j7 t.mask p) m:=fun m=>by rw[Nat.add_comm];exact rS t.mask p 1 m
   refine⟨M+1,by omega,by rw[U];exact Y,fun m Z=>?_⟩;cases m with
  |zero=>show t.slot p.j≠_;grind
  |succ m=>grind
variable{prog:C_}{w:S_}{A:T_}{E:Value->c_->Prop}{s:c_}
abbrev cI(prog:C_)(w:S_)(h:Heap)(k:List Int)(b:Addr):Prop:=IsTupleKey (ă prog w) h k b
theorem HJ(d:cI prog w s.heap k b)(h:Q false s):p_ (u_ prog w) A (Ŭ 8 (.ref b)) Q E s:=by
 obtain⟨o,U,n,Z,i,g,f⟩:=d;unfold Ŭ;refine Q_a (wpAny_typeOf_ref Z ?_);rw[i];show p_ _ _ ((if ("tuple" == "tuple")=true then pure true else ł (.type "tuple") (.type "tuple")) >>= _) _ _ s;refine Q_a (e_ ?_);refine Q_a (YC Z g ?_);show p_ _ _ (forIn U _ _ >>= _) _ _ s;rw[<-Qb6];refine Q_a (ů _ (fun L r Y=>r.1=none/\Y=s/\∀v∈L,carriedByValue v=true) _ ?_ ?_ _ _ ⟨rfl,rfl,f.byValue⟩)
 .rintro v L r Y ⟨hr,rfl,hall⟩
  have c:=hall v m_;have e:Ŭ 7 v=pure false:=by cases v with
  |ref a=>simp[carriedByValue]at c
  |_=>first|rfl|grind
  rw[e];exact e_ (by simp_all)
 .rintro⟨r1,r2⟩ Y ⟨hr,rfl,_⟩
  subst hr;exact e_ h
theorem R8(c:cI prog w s.heap k b)(h:Q true s):p_ (u_ prog w) A (hashByValue 8 (.ref b)) Q E s:=by
 have m:=c.typeIs;obtain⟨o,L,n,g,z,j,d⟩:=c;have U:∀v∈L.toList,∃i t,v=.int i t:=by
  generalize L.toList=l at d
  induction d with
 |nil=>simp_all
 |@cons y u x q p _ f=>
   intro v a;rcases s_.mp a with rfl|a
   .cases v with
   |int i t=>exact⟨i,t,rfl⟩
   |_=>exact Q_g p y_
   .exact f v a
 refine Q_a (ZX m F.slot_tuple_hash.lookup ?_);refine Q_a (YC g j ?_);show p_ _ _ (forIn L _ _ >>= _) _ _ s;rw[<-Qb6];refine Q_a (ů _ (fun Y r Z=>r.1=none/\Z=s/\∀v∈Y,∃i t,v=.int i t) _ ?_ ?_ _ _ ⟨rfl,rfl,U⟩)
 .rintro v Y r Z ⟨hr,rfl,U⟩
  obtain⟨i,t,rfl⟩:=U v m_;have e:hashByValue 7 (.int i t)=pure true:=by rfl
  exact e_ (by simp_all)
 .rintro⟨r1,r2⟩ Z ⟨hr,rfl,_⟩
  subst hr;exact e_ h
theorem Oo(g:cI prog w s.heap i b)(hs:∀v∈Y,∃y c,v=.ref y/\cI prog w s.heap c y)(h:Q false s):p_ (u_ prog w) A (searchCouldBeSeen (.ref b) Y) Q E s:=by
 refine Q_a (ů _ (fun Z r a=>r.1=none/\a=s/\∀v∈Z,∃y c,v=.ref y/\cI prog w s.heap c y) _ ?_ ?_ _ _ ⟨rfl,rfl,hs⟩)
 .rintro v Z r a ⟨hr,rfl,hall⟩
  obtain⟨y,c,rfl,f⟩:=hall v m_;have next:∀{d:Option Bool×Unit},d.1=none->(d.1=none/\a=a/\∀v∈Z,∃y c,v=Value.ref y/\cI prog w a.heap c y):=fun e=>⟨e,rfl,fun u U=>hall u (k_ _ U)⟩
  dsimp only
  by_cases L:(b==y)=true
  .rw[L];exact e_ (next rfl)
  .have L:(b==y)=false:=by simpa using L
   rw[L];refine Q_a (Qdm g ?_);refine Q_a (Qdm f ?_);refine Q_a (HJ g ?_);refine Q_a (HJ f ?_);exact e_ (next rfl)
 .rintro⟨r1,r2⟩ a ⟨hr,rfl,_⟩
  subst hr;exact e_ h
theorem QY(h:m∈M3):(m%2==0)=false:=by rcases mem_M3 h with rfl|rfl|rfl <;> rfl
theorem J2(hu:A.units<Z9)(J:s.heap.get? S=some o)(N:o.data=.set f ep t)(C:t.fits f.size=true)(T:Tb t)(Z:∀e∈f.toList,∃y l,e.2=.ref y/\cI prog w s.heap l y)(I:cI prog w s.heap r b)(hM:M<10*turns t.mask)(hl:∀m,m<M->t.slot (wk t.mask (gR t.mask h) m).j≠.empty)(G:t.slot (wk t.mask (gR t.mask h) M).j=.empty/\Q (.free (wk t.mask (gR t.mask h) M).j false) s\/∃i y,t.slot (wk t.mask (gR t.mask h) M).j=.live i/\f[i]? = some (h,.ref y)/\cI prog w s.heap r y)(hq:∀e∈f.toList,∀y,e.2=.ref y->cI prog w s.heap r y->Q (.there none) s):∀(d m F:Nat)(c:Option Probe),m+d=M->d<F->c.getD (t.probeStart h)=wk t.mask (gR t.mask h) m->p_ (u_ prog w) A (setSearchFrom S (.ref b) h true F c) Q E s:=by
 intro d
 induction d using Nat.strongRecOn with
|_ d ih=>
  intro m F c hm hF hs;obtain⟨F,rfl⟩:∃F',F=F'+1:=⟨F-1,by omega⟩
  unfold setSearchFrom;refine Q_a (ğ J N C ?_)
  dsimp only
  have hg:t.gaveWay=false:=QY T.mask;rw[hg];simp only[YE,Q_n];unfold SetTable.probe;rw[hs];generalize IO:probe.go t _ h (10*turns t.mask) (wk t.mask (gR t.mask h) m)=R;have W:=PL T.dum (st:=gR t.mask h) rfl hl hm (by omega) IO (G.imp (fun z=>z.1) fun b=>by obtain⟨i,y,q,p,_⟩:=b;exact ⟨i,q,by show(f[i]?.map (·.1)).getD 0=h;rw[p];rfl⟩);rcases W with⟨k,i,B,w2,a,rfl⟩|⟨B,rfl⟩
  .have hpl:t.place[i]? = some (wk t.mask (gR t.mask h) k).j:=by
    rcases slot_cases T.dum (wk t.mask (gR t.mask h) k).j with z|⟨i',z,e⟩
    .rw[z.1]at a;cases a
    .rw[z]at a;cases a;exact e
   have K:i<f.size:=by have:i<t.place.size:=(Y7.mp hpl).1;simp only[QfA,R_,beq_iff_eq,Q_k]at C;omega
   obtain⟨n,g,O⟩:∃n g,f[i]=(n,g):=⟨f[i].1,f[i].2,rfl⟩
   have L:f[i]? = some (n,g):=by rw[w_ K,O]
   have P:(n,g)∈f.toList:=by rw[<-O];exact QcB K
   obtain⟨y,l,H,U⟩:=Z (n,g) P;have H:g=.ref y:=H;subst H;have Id:t.sameMemory t.moves t.mask=some true:=by unfold SetTable.sameMemory;rw[Q_e (by simp)]
   have Y:isSame (.ref y) (.ref y)=pure true:=by show(if (y==y)=true then pure true else _)=_;rw[Q_e (by simp)]
   have Cl:∀v∈Zd (fun x=>x.snd) (Array.filter (fun x=>x.fst==h) f).toList,∃y l,v=Value.ref y/\cI prog w s.heap l y:=fun v n=>by obtain⟨x,X,rfl⟩:=F_.mp n;obtain⟨y,l,q1,q2⟩:=Z x (by rw[Array.toList_filter]at X;exact(Zp.mp X).1);exact⟨y,l,q1,q2⟩
   dsimp only
   simp only[L];cases KK:t.led;simp only[Bool.not_false,Q_o];refine Q_a (Oo I Cl ?_);simp only[YE,Q_n]
   rotate_left
   simp only[Qfy,YE,Q_n]
   all_goals
    refine Q_a (YH (wpAny_eqBool_tuple hu U I ?_));refine Q_a (ğ J N C ?_);by_cases u:l=r
    .rw[Q_d u];subst u;exact e_ (hq _ P y rfl U)
    .rw[Q_c u];have hlt:k<M:=by
      rcases Nat.lt_or_ge k M with z|z
      .exact z
      .exfalso;have:k=M:=by omega
       subst this;rcases G with z|⟨i0,g,q,p,z3⟩
       .rw[z.1]at a;cases a
       .rw[q]at a;cases a;rw[L]at p;cases p;exact u (U.inj z3)
     simp only[Qfe,YE,Q_n,Id,Q_o,a,L,Y];exact Q_a (e_ (Q_a (e_ (ih (M-(k+1)) (by omega) (k+1) F (some _) (by omega) (by omega) rfl))))
  .rcases G with z|⟨i0,g,q,p,z3⟩
   .exact e_ z.2
   .rw[q]at B;cases B
theorem zG(xs:Array L)(p:Nat)(x:L):(Y8 xs p x).size=xs.size+1:=by
 unfold Y8
 grind
theorem ins_mem{x y:L}(h:y∈(Y8 xs p x).toList):y=x\/y∈xs.toList:=by
 unfold Y8 at h;rw[Array.toList_append,Qcp,QdJ,QdJ]at h
 grind
def n5(m n:Nat):Prop:=m=7/\n<=4\/m=31/\n<=18\/m=127/\n<=76
theorem n5.m3(h:n5 m n):m∈M3/\n<=m:=by
 rcases h with⟨rfl,h⟩|⟨rfl,h⟩|⟨rfl,h⟩
 .exact⟨by simp[M3],by omega⟩
 .exact⟨by simp[M3],by omega⟩
 .exact⟨by simp[M3],by omega⟩
theorem zip_ins{U L:Type}{A:List U}{B:List L}(Y:A.length=B.length){a:U}{b:L}{q:U×L}(h:q∈(A.take p++a::A.drop p).zip (B.take p++b::B.drop p)):q=(a,b)\/q∈A.zip B:=by
 have e:A.zip B=(A.take p).zip (B.take p)++(A.drop p).zip (B.drop p):=by rw[<-QeU (by grind),Ĕ,Ĕ]
 rw[QeU (by grind),Qd9]at h
 grind
structure SX0(hk:List Int->Int)(h:Heap)(S:Addr)(bks:List (Addr×List Int))(es:Array (Int×Value))(ep:Nat)(t:ç):Prop where
 at_:h.get? S=some { cls:=.type "set",dict:=none,data:=.set es ep t }
 dum:t.dummies = #[]
 size:es.size=bks.length
 psz:t.place.size=bks.length
 mem:∀e∈es.toList,∃x∈bks,e=(hk x.2,.ref x.1)
 all:∀x∈bks,(hk x.2,Value.ref x.1)∈es.toList
 rise:t.place.toList.Pairwise (· < ·)
 rch:∀q∈t.place.toList.zip es.toList,lN t.mask (·∈t.place.toList) q.2.1 q.1
def SX(hk:List Int->Int)(h:Heap)(S:Addr)(bks:List (Addr×List Int)):Prop:=∃es ep t,SX0 hk h S bks es ep t/\n5 t.mask bks.length
theorem SX0.fits{h:Heap}{t:ç}(X:SX0 Z h S L U a t)(Y:L.length<=t.mask):t.fits U.size=true:=by unfold QfA QfB;rw[X.size,X.psz,X.dum];simp;exact Y
theorem Sv(X:SX0 r s.heap S c Z N t)(J:c.length<=t.mask)(Y:sizeAbove wanted-1∈M3)(hN:n5 (sizeAbove wanted-1) c.length)(O:sizeAbove wanted<=128)(h:∀h',Zq S s.heap h'->SX r h' S c->Q () { s with heap:=h' }):p_ (u_ prog w) A (Ĥ S wanted) Q E s:=by
 unfold Ĥ;refine Q_a (ğ X.at_ rfl (X.fits J) ?_)
 dsimp only
 rw[Q_f (by rw[O_];omega)];obtain⟨k,L,e,C,B,n,m,f⟩:=QW (t:=t) (hs:=Z.map (·.1)) (wanted:=wanted) Y (by rw[QdH,X.size];exact hN.m3.2);rw[QdH]at n m f;rw[e];have U:∀{l:List Nat},(∀x∈l,x<Z.size)->(l.filterMap (Z[·]?)).length=l.length/\∀y∈l.filterMap (Z[·]?),y∈Z.toList:=by
  intro l
  induction l with
 |nil=>intro _;exact⟨rfl,fun _ h=>(nomatch h)⟩
 |cons a l I=>
   intro p;obtain⟨M,K⟩:=I fun x i=>p x (k_ _ i);have v:=p a m_;rw[QcA (b:=Z[a]) (w_ v)];refine⟨by rw[I_,M,I_],fun y g=>?_⟩;rcases s_.mp g with rfl|g
   .exact QcB v
   .exact K y g
 obtain⟨f1,f2⟩:=U f;have d:(L.filterMap (Z[·]?)).toList=L.toList.filterMap (Z[·]?):=Array.toList_filterMap;have j:(L.filterMap (Z[·]?)).size=Z.size:=by rw[<-YR,d,f1,YR,m]
 show p_ _ _ ((if ((L.filterMap (Z[·]?)).size != Z.size)=true then(Ż "internal:set-table-lost-an-element" >>= fun _=>pure (L.filterMap (Z[·]?),k))else pure (L.filterMap (Z[·]?),k)) >>= _) _ _ s;rw[Q_f (by rw[j];simp)];refine Q_a (e_ (Qex X.at_ rfl ?_ (by rw[j,X.size,O_];have:=hN.m3.2;omega)));obtain⟨H,G,F⟩:=Nd (t:=t) f e;refine h _ (ZZ s.heap S _) ⟨_,_,_,⟨HS.put_heap X.at_,B,by rw[j,X.size],by rw[n,X.size],fun z u=>?_,fun x i=>?_,H,fun q o=>?_⟩,by rw[C];exact hN⟩
 .rw[d]at u;exact X.mem z (f2 z u)
 .rw[d];exact G _ (X.all x i)
 .rw[d]at o;exact F q o
theorem N8(hu:A.units<Z9)(hS:SX d s.heap S a)(R:∀x∈a,cI prog w s.heap x.2 x.1)(n:cI prog w s.heap c b)(hl:a.length<76)(h:∀h' b',Zq S s.heap h'->SX d h' S (if c∈a.map (·.2)then a else(b,c)::a)->Q b' { s with heap:=h' }):p_ (u_ prog w) A (setAddHashed S (.ref b) (d c)) Q E s:=by
 obtain⟨f,I,t,X,M⟩:=hS;obtain⟨V6,Id⟩:=M.m3;have H:=X.fits Id;have T:Tb t:=⟨V6,X.dum,by rw[X.psz];exact Id⟩
 unfold setAddHashed setAddHashedIn;refine YH (Q_a (ğ X.at_ rfl H ?_))
 dsimp only
 have Ty:byScan (.ref b) f=false:=rfl;rw[Ty];simp only[YE,Q_n];have KK:∀e∈f.toList,∃y ky,e.2=.ref y/\cI prog w s.heap ky y:=fun e u=>by obtain⟨x,L,rfl⟩:=X.mem e u;exact⟨x.1,x.2,rfl,R x L⟩
 have ht:10*turns t.mask<100000:=by unfold turns;rcases mem_M3 T.mask with z|z|z <;> rw[z] <;> decide
 have V7:∀{x:Nat},t.slot x≠.empty->x∈t.place.toList:=fun{x} z=>Zl fun y=>z (Ii X.dum y);by_cases J:c∈a.map (·.2)
 .rw[Q_e J]at h;obtain⟨x,L,Z⟩:=F_.mp J;obtain⟨i,O,ei⟩:=P_ (X.all x L);rw[YR]at O;have v:i<t.place.size:=by rw[X.psz,<-X.size];exact O
  have I:t.place[i]? = some t.place[i]:=w_ v;obtain⟨o,F,C,B⟩:=X.rch (t.place[i],(d x.2,.ref x.1)) (YV (i:=i) (by rw[List.getElem?_zip_eq_some];exact⟨by rw[N_];exact I,by rw[h_];exact⟨_,ei⟩⟩));simp only[Z]at C B;refine Q_a (J2 (M:=o) hu X.at_ rfl H T KK n F (fun m N=>?_) (.inr ⟨i,x.1,?_,?_,?_⟩) (fun e u y ey hy=>?_) o 0 100000 none (by omega) (by omega) rfl)
  .obtain⟨i',v,e'⟩:=P_ (B m N);rw[yZ X.rise (k:=i') (by rw[<-N_,h_];exact⟨_,e'⟩)];exact fun z=>Slot.noConfusion z
  .rw[C];exact yZ X.rise I
  .rw[w_ O,<-Z,<-ei,QdI]
  .rw[<-Z];exact R x L
  .exact e_ (by have:=h s.heap false (Qes S s.heap) ⟨f,_,t,X,M⟩;cases s;exact this)
 rw[Q_f J]at h;have h0:=QN (hashAt:=fun _=>d c+1) (h:=d c) T;obtain⟨met,ST⟩:=Option.ne_none_iff_exists'.mp h0;obtain⟨o,F,C,B⟩:=Ik X.dum ST;refine Q_a (J2 (M:=o) hu X.at_ rfl H T KK n F B (.inl ⟨C,?_⟩) (fun e u y ey hy=>?_) o 0 100000 none (by omega) (by omega) rfl)
 rotate_left
 .obtain⟨x,L,rfl⟩:=X.mem e u;cases ey;exact Q_g (F_.mpr ⟨x,L,(R x L).inj hy⟩) J
 .have rj:lN t.mask (·∈t.place.toList) (d c) (wk t.mask (gR t.mask (d c)) o).j:=⟨o,F,rfl,fun m N=>V7 (B m N)⟩
  have IO:(wk t.mask (gR t.mask (d c)) o).j∉t.place.toList:=fun z=>by obtain⟨i',v,e'⟩:=P_ z;have LE:t.slot (wk t.mask (gR t.mask (d c)) o).j=.empty:=C;rw[yZ X.rise (k:=i') (by rw[<-N_,h_];exact⟨_,e'⟩)]at LE;cases LE
  generalize(wk t.mask (gR t.mask (d c)) o).j=j at rj IO
  dsimp only
  refine Q_a (ğ X.at_ rfl H ?_)
  dsimp only
  have K:(t.put j).1.dummies = #[]:=by
   show(if has t.dummies j=true then _ else t.dummies)=_;have:has t.dummies j=false:=by rw[X.dum];unfold has;simp
   rw[this,X.dum];rfl
  have r:(t.put j).1.place.size=a.length+1:=by show(Y8 t.place _ j).size=_;rw[zG,X.psz]
  have U:(t.put j).1.mask=t.mask:=rfl;have Cl:(t.put j).1.place.toList.Pairwise (· < ·):=QT X.rise IO;have Y:(t.put j).1.place.toList=t.place.toList.take (t.put j).2++j::t.place.toList.drop (t.put j).2:=Qa4 _ _ _;generalize hP:t.put j=P at K r U Cl Y;obtain⟨l,p⟩:=P;simp only at K r U Cl Y;have fin:p_ (u_ prog w) A (storeSet S (Y8 f p (d c,.ref b)) l >>= fun _=>if (! false&&l.tooFull)=true then Ĥ S (ő (f.size+1)) >>= fun _=>pure true else pure true) Q E s:=by
   refine Q_a (Qex X.at_ rfl ?_ (by rw[zG,X.size,O_];omega));have LT:=ZZ s.heap S (đ (Y8 f p (d c,.ref b)) l);have X1:SX0 d (s.heap.update S (đ (Y8 f p (d c,.ref b)) l)) S ((b,c)::a) (Y8 f p (d c,.ref b)) (I+1) l:=
    ⟨HS.put_heap X.at_,K,by rw[zG,X.size,I_],by rw[r,I_],fun e u=>by
     rcases ins_mem u with rfl|u
     .exact⟨(b,c),m_,rfl⟩
     .obtain⟨x,L,Z⟩:=X.mem e u;exact⟨x,k_ _ L,Z⟩,fun x n=>by
     refine(SetTable.insertAt_perm f p (d c,Value.ref b)).mem_iff.mpr ?_;rw[Qcp];rcases s_.mp n with rfl|n
     .exact YL _ m_
     .exact Ş _ (X.all x n),Cl,fun q G=>by
     rw[Qa4,Y]at G;have up:∀x,x∈t.place.toList->x∈l.place.toList:=fun x n=>by
      rw[Y];rw[<-Ĕ p t.place.toList]at n;rcases ZH.mp n with z|z
      .exact Ş _ z
      .exact YL _ (k_ _ z)
     rw[U];rcases zip_ins (by rw[YR,YR,X.psz,X.size]) G with rfl|G
     .exact rj.mono up
     .exact(X.rch q G).mono up⟩
   have Tm:l.tooFull=decide ((a.length+1)*5>=t.mask*3):=by unfold SetTable.tooFull QfB;rw[r,K,U];rfl
   rw[Tm];have go:∀{m':Nat},SetTable.sizeAbove (ő (f.size+1))=m'+1->m'∈M3->n5 m' (a.length+1)->m'+1<=128->t.mask*3<=(a.length+1)*5->p_ (u_ prog w) A (if (! false&&decide ((a.length+1)*5>=t.mask*3))=true then Ĥ S (ő (f.size+1)) >>= fun _=>pure true else pure true) Q E { s with heap:=s.heap.update S (đ (Y8 f p (d c,.ref b)) l) }:=fun{m'} e1 e2 e3 e4 e5=>by
    rw[Q_e (by rw[Q_d e5];rfl)];refine Q_a (Sv X1 ?_ (by rw[e1];exact e2) (by rw[e1,I_];exact e3) (by rw[e1];exact e4) fun h' sb W=>?_)
    .rw[I_,U];rcases M with⟨e,z⟩|⟨e,z⟩|⟨e,z⟩ <;> omega
    .exact e_ (h h' true (LT.trans sb) W)
   have g:¬ t.mask*3<=(a.length+1)*5->n5 t.mask (a.length+1)->p_ (u_ prog w) A (if (! false&&decide ((a.length+1)*5>=t.mask*3))=true then Ĥ S (ő (f.size+1)) >>= fun _=>pure true else pure true) Q E { s with heap:=s.heap.update S (đ (Y8 f p (d c,.ref b)) l) }:=fun e5 e3=>by rw[Q_f (by rw[Q_c e5];simp)];exact e_ (h _ true LT ⟨_,_,_,X1,by rw[U,I_];exact e3⟩)
   rcases M with⟨e,z⟩|⟨e,z⟩|⟨e,z⟩
   .by_cases h4:a.length=4
    .exact go (m':=31) (by rw[X.size,h4];decide) (by simp[M3]) (.inr (.inl ⟨rfl,by omega⟩)) (by decide) (by rw[e,h4];decide)
    .exact g (by rw[e];omega) (.inl ⟨e,by omega⟩)
   .by_cases h4:a.length=18
    .exact go (m':=127) (by rw[X.size,h4];decide) (by simp[M3]) (.inr (.inr ⟨rfl,by assumption⟩)) (by decide) (by rw[e,h4];decide)
    .exact g (by rw[e];omega) (.inr (.inl ⟨e,by omega⟩))
   .exact g (by rw[e];omega) (.inr (.inr ⟨e,by assumption⟩))
  cases hpl:l.plain with
 |true=>simp only[Q_o];refine Q_a (R8 n ?_);simp only[Q_o];exact fin
 |false=>simp only[YE,Q_n];refine Q_a (e_ ?_);simp only[Q_o];exact fin
def ad{α:Type}[DecidableEq α](a:List α)(x:α):List α:=if x∈a then a else x::a
def DK{α:Type}[DecidableEq α](l:List α):Nat:=(l.foldl ad []).length
theorem VH{L:Type}[DecidableEq L](a:List L)(x:L):(ad a x).length<=a.length+1:=by
 unfold ad
 grind
theorem fold_le{L:Type}[DecidableEq L]:∀(l a:List L),(l.foldl ad a).length<=a.length+l.length
|[],a=>q_ _
|x::l,a=>by
  have:=fold_le l (ad a x);have:=VH a x
  grind
section
variable{R:ò->c_->Prop}{I:Addr}{fp wr:List Addr}{G:Array Ń->Array Ń->Prop}{n:Nat}{P:Nat->Value->Prop}{St:Nat->c_->Prop}
theorem Sb(W:WalksS prog w A.in1 I fp wr G n P St)(B:S∉fp)(J:Nat->Heap->Prop)(c:∀i h h',J i h->(∀b o,b∉wr->h.get? b=some o->h'.get? b=some o)->J i h')(x:∀i v (s:c_) (Q:Bool->c_->Prop) (E:Value->c_->Prop),i<n->P i v->J i s.heap->(∀h' b k,Zq S s.heap h'->J (i+1) h'->Q b { s with heap:=h',toks:=s.toks+k })->p_ (u_ prog w) A.in1 (setAdd S v) Q E s):∀(k i:Nat)(s:c_),i+k=n->St i s->J i s.heap->(∀a,Moved (S::wr) G s a->J n a.heap->R (.ok (.ret .none)) a) ->Z1 (u_ prog w) A (.builtin "set.update.loop" ⟨[.ref S,.ref I],[]⟩) R s:=by
 have d:∀b∈wr,b∈S::wr:=fun b j=>k_ _ j;intro k
 induction k with
|zero=>
  intro i s t L q p;have m:i=n:=by omega
  subst m;refine Y5 F.entry_set_update_loop ?_;refine Q_a (W.done s _ _ L fun a g=>?_);exact e_ (p a (g.mono d) (c _ _ _ q fun b o h e=>g.heap b o h e))
|succ k r=>
  intro i s t L q p;refine Y5 F.entry_set_update_loop ?_;refine Q_a (W.item i s _ _ (by omega) L fun v a u U g=>?_);refine Q_a (YH (x i v a _ _ (by omega) u (c _ _ _ q fun b o h e=>g.heap b o h e) fun h' b C f y=>?_));refine e_ ⟨Zx F.plain_set_update_loop _,r (i+1) _ (by omega) (W.frame _ a _ _ U (Ħ _ _) fun b j o e=>?_) y fun l Y Z=>?_⟩
  .rw[f.2 b fun z:b=S=>B (by rw[<-z];exact j)];exact e
  .refine p l (Moved.trans W.gtrans ((g.mono d).then_heap (Ħ _ _) fun b o j e=>?_) Y) Z;rw[f.2 b fun z:b=S=>j (by simp_all)];exact e
end
theorem Rt(hh:A.handled=none)(hl:s.heap.IsList l a)(J:Nat->Heap->Prop)(J0:∀h led,h.get? s.heap.objs.size=some (HS.freshSet led)->(∀b o,s.heap.get? b=some o->h.get? b=some o)->J 0 h)(x:∀i h h',J i h->(∀b o,b≠s.heap.objs.size+1->h.get? b=some o->h'.get? b=some o)->J i h')(Cl:∀(X:T_) i v (f:c_) (Q:Bool->c_->Prop) (E:Value->c_->Prop),X.units<A.units+64->i<a.size->a[i]? = some v->J i f.heap->(∀h' b k,Zq s.heap.objs.size f.heap h'->J (i+1) h'->Q b { f with heap:=h',toks:=f.toks+k })->p_ (u_ prog w) X (setAdd s.heap.objs.size v) Q E f)(h:∀(h':Heap)(B:Nat),J a.size h'->(∀b o,s.heap.get? b=some o->h'.get? b=some o)->Q (.ref s.heap.objs.size) { s with heap:=h',toks:=B }):p_ (u_ prog w) A (call (.type "set") [.ref l]) Q E s:=by
 obtain⟨c,tl,T⟩:=F.called_set.mro;have Id:=F.called_set.made;have S:=F.called_set.sub;refine Ľ (Ų ?_);show p_ _ _ (callAny (.type "set") _) _ _ _;refine e_ ⟨Qb2 _ (by decide+kernel),Y5 F.entry_type_call ?_⟩;rw[Qd6 (Qdj "set" [.ref l] []) rfl];have h1:=F.called_set.notType;have h2:=F.called_set.canCreate;have LE:=F.typeCall_set_1 (.ref l)
 repeat (any_goals (first|assumption|wp_step))
 refine û (HS.new_set (.ref l) (E:=E) (Q:=fun u m=>u=.ref s.heap.objs.size/\m={ s with heap:=s.heap.push (HS.freshSet (HS.ledOf w)) }) ⟨rfl,rfl⟩) fun r m y=>?_;cases r with
|error e=>exact y
|ok fl=>cases fl with
 |next=>exact y.elim
 |brk=>exact y.elim
 |cont=>exact y.elim
 |ret u=>
   obtain⟨rfl,rfl⟩:=y;have W:(s.heap.push (HS.freshSet (HS.ledOf w))).get? s.heap.objs.size=some (HS.freshSet (HS.ledOf w)):=i_ _ rfl;have hT:Qfw { s with heap:=s.heap.push (HS.freshSet (HS.ledOf w)) } (.ref s.heap.objs.size) "set" := ⟨_,W,rfl⟩
   have LT:=F.called_set.init.lookup;have ST:=F.called_set.init.bind (.ref s.heap.objs.size)
   repeat (any_goals (first|assumption|wp_step))
   refine û (Qdv (R:=wants (fun r j=>r=.none/\∃h' B,j={ s with heap:=h',toks:=B }/\J a.size h'/\∀b o,s.heap.get? b=some o->h'.get? b=some o) E) F.called_set.init.plain F.entry_set_init (check_set_init_1 hT ?_)) fun t j d=>?_
   .obtain⟨ol,hol,hcl,nl,hdl⟩:=hl;obtain⟨P,n,K,g⟩:=ol;simp only at hcl hdl;subst hcl;subst hdl;have Y:(s.heap.push (HS.freshSet (HS.ledOf w))).get? l=some { cls:=.type "list",dict:=n,data:=.seq a nl,slots:=g }:=a_ _ hol;have IO:=F.sub_list_set;have KK:=F.sub_list_frozenset;have hne:(Value.type "list" == Value.type "dict")=false:=by decide
    have U:(s.heap.push (HS.freshSet (HS.ledOf w))).IsList l a:=⟨_,Y,rfl,nl,rfl⟩
    unfold Zf.«set.__init__» noKeywords QbO;generalize N:ö=PI
    wp_walk
    subst N;refine Þ U (Q_a (Ķ ?_));have L:l<s.heap.objs.size:=o_ hol;have BT:A.in1.in1.in1.handled=none:=by simp[hh]
    have Z:l≠(s.heap.push (HS.freshSet (HS.ledOf w))).objs.size:=by rw[H_];exact z_ (Y2 L)
    have ac:s.heap.objs.size∉[(s.heap.push (HS.freshSet (HS.ledOf w))).objs.size,l]:=by rw[H_];simp only[s_,L_,Q_m,not_or];exact⟨z_ (Zi _),YS L⟩
    refine Sb ((ŗ BT _ l Z a).toS) ac J (fun i h h' O hk=>x i h h' O fun b o G e=>hk b o (fun z=>G (by rw[YA.mp z,H_])) e) (fun i v f Q E hi hv O hQ=>Cl _ i v f Q E (by simp only[Around.in1_units];omega) hi hv O hQ) a.size 0 _ (by omega) ⟨⟨_,i_ _ rfl,rfl,rfl⟩,U.push _⟩ (J0 _ _ (a_ _ W) fun b o e=>a_ _ (a_ _ e)) fun f C p=>?_;obtain⟨h',g',d',H,I⟩:=f;have eg:g'=s.gens:=C.gens;have ed:d'=s.drawn:=C.drawn;have eo:I=s.os:=C.os;subst eg;subst ed;subst eo;show p_ _ _ _ _ _ _;refine e_ ?_;show p_ _ _ (ret Value.none) _ _ _;refine e_ ⟨rfl,h',H,rfl,p,fun b o e=>?_⟩;have G:b<s.heap.objs.size:=o_ e;refine C.heap b o ?_ (a_ _ (a_ _ e));rw[H_];simp only[s_,L_,Q_m,not_or];exact⟨z_ G,z_ (Y2 G)⟩
   .cases t with
   |error e=>exact d
   |ok q=>cases q with
    |ret r=>
      obtain⟨rfl,h',B,rfl,p,M⟩:=d
      repeat (any_goals (first|assumption|wp_step))
      exact h _ _ p M
    |next=>exact d.elim
    |brk=>exact d.elim
    |cont=>exact d.elim
def qM(h:Heap)(S:Addr)(c:Nat):Prop:=∃o es ep t,h.get? S=some o/\o.ExactSet/\o.data=.set es ep t/\t.fits es.size=true/\es.size=c
abbrev gQ{α:Type}[DecidableEq α](f:Nat->α)(i:Nat):List α:=((d_ i).map f).foldl ad []
theorem Sc{L:Type}[DecidableEq L](f:Nat->L)(i:Nat):gQ f (i+1)=ad (gQ f i) (f i):=by unfold gQ;rw[Ĝ,M_,List.foldl_append];rfl
theorem Po{L:Type}[DecidableEq L](f:Nat->L)(i:Nat):(gQ f i).length<=i:=by have:=fold_le ((d_ i).map f) [];simpa using this
theorem vZ{h h':Heap}(x:cI prog w h k b)(e:∀o,h.get? b=some o->h'.get? b=some o):cI prog w h' k b:=by obtain⟨o,L,n,U,z⟩:=x;exact⟨o,L,n,e o U,z⟩
theorem SX.keep{h h':Heap}(x:SX U h S L)(e:∀o,h.get? S=some o->h'.get? S=some o):SX U h' S L:=by obtain⟨Y,Z,t,X,M⟩:=x;exact⟨Y,Z,t,{ X with at_:=e _ X.at_ },M⟩
theorem iO{bs:Nat->Addr}(B:A.handled=none)(G:A.units+64<Z9)(z:s.heap.IsList l Z)(u:∀(i:Nat)(v:Value),Z[i]? = some v->v=.ref (bs i))(q:∀i,i<Z.size->cI prog w s.heap (kk i) (bs i))(H:Z.size<=76)(h:∀(h':Heap)(k:Nat),qM h' s.heap.objs.size (gQ kk Z.size).length->(∀b o,s.heap.get? b=some o->h'.get? b=some o)->Q (.ref s.heap.objs.size) { s with heap:=h',toks:=k }):p_ (u_ prog w) A (call (.type "set") [.ref l]) Q E s:=by
 have L:=fun i g=>let⟨o,_,_,e,_⟩:=q i g;o_ e;refine Rt B z (fun i h=>(∃a,SX (tupleKeyHash (ă prog w)) h s.heap.objs.size a/\a.map (·.2)=gQ kk i/\∀x∈a,∃j,j<Z.size/\x=(bs j,kk j))/\∀j,j<Z.size->cI prog w h (kk j) (bs j)) (fun h m y c=>⟨⟨[],⟨#[],0,.fresh 0 0 m,⟨y,rfl,rfl,rfl,fun _ h=>by simp at h,fun _ h=>(nomatch h),.nil,fun _ h=>by simp at h⟩,.inl ⟨rfl,by decide⟩⟩,rfl,fun _ h=>(nomatch h)⟩,fun j d=>vZ (q j d) fun o e=>c _ o e⟩)
  (fun i h h' ⟨⟨a,h1,h2,h3⟩,h4⟩ c=>⟨⟨a,h1.keep fun o e=>c _ o (z_ (Zi _)) e,h2,h3⟩,fun j d=>vZ (h4 j d) fun o e=>c _ o (by grind) e⟩)
  (fun J i v F Q E I g U p C=>?_) fun h' k p c=>?_
 .obtain⟨⟨a,h1,h2,h3⟩,h4⟩:=p;have:=u i v U;subst this;unfold setAdd;have n:a.length<76:=by
   have:=Po kk i
   grind
  refine YH (Q_a (wpAny_pyHash_tuple (by omega) (h4 i g) ?_));refine N8 (by omega) h1 (fun x r=>?_) (h4 i g) n fun h' b f Y=>C h' b _ f ⟨⟨_,Y,?_,fun x r=>?_⟩,fun j d=>vZ (h4 j d) fun o e=>by rw[f.2 _ (z_ (L j d))];exact e⟩
  .grind
  .rw[Sc,<-h2,ad]
   grind
  grind
 .obtain⟨⟨a,⟨es,ep,t,X,M⟩,h2,_⟩,_⟩:=p;exact h h' k ⟨_,es,ep,t,X.at_,⟨rfl,rfl,rfl⟩,rfl,X.fits M.m3.2,by rw[X.size,<-h2,b_]⟩ c
end HT
namespace DL
open PySem PySem.Spec PyProof.Rows L2
def EF(X:Cx):List V->Hp->VK->Prop:=fun xs H Q=>∃p,∃bks:List (Addr×List Int),xs=[.ref p]/\bp X.K H p (bks.map fun x=>V.ref x.1)/\(∀x∈bks,cg X.K H x.1 (x.2.map V.int))/\bks.length<=76/\Q (.int (HT.DK (bks.map (·.2)):Nat)) H
theorem Im:∀{L:List Int}{its:List Value},ar (L.map V.int) its->ItemsAre (ă prog w) L its
|[],_,r=>by cases r;exact .nil
|n::L,_,r=>by cases r with
 |@cons _ u _ Y U t=>
   obtain⟨Z,rfl⟩:=(U)
   exact .cons (intKind_is _ _ _ _) (Im t)
theorem Hr:∀{L:List (Addr×List Int)}{its:List Value},ar (L.map fun x=>V.ref x.1) its->its=L.map fun x=>Value.ref x.1
|[],_,r=>by cases r;rfl
|b::L,_,r=>by cases r with
 |cons U t=>cases U;rw[Hr t];rfl
variable{X:Cx}{g:GE}{m:List Md}{a:Expr}{fl:am->Res (List D)}{pos p p2:Pos}
section
variable{t:TA}{pos2:Pos}
theorem Th(r:X.calm=true)(P:X.A.units+64<Z9)(hg:Gl X "len")(T:X.mg "len" = none)(Z:Gl X "set")(ac:X.mg "set" = none)(ha:PA X [a] t)(E:f_ [.Call (.Name "set" p2) [a] [] pos2] X.env=(false,eval (.Call (.Name "set" p2) [a] [] pos2) X.env)::f_ [] X.env:=by rfl)(U:f_ [a] X.env=(false,eval a X.env)::f_ [] X.env:=by rfl):PE X (.Call (.Name "len" p) [.Call (.Name "set" p2) [a] [] pos2] [] pos) (lH (EF X) t):=by
 intro C s B H Q I h;have W:=I.ok.hd r;refine Y3 (iq I hg T boot_len ?_ (by decide) (by decide));refine Qbx ?_ E rfl;rw[E];show p_ _ _ (spliced ((false,eval (.Call (.Name "set" p2) [a] [] pos2) X.env)::backTo pos (f_ [] X.env))) _ _ s;refine Ŕ (aW (Q:=fun u k=>∃(S:Addr)(c:Nat)(j:Hp),u=.ref S/\Inv X C B j k/\HT.qM k.heap S c/\c<=76/\Q (.int c) j) ?_ ?_)
 .refine Y3 (iq I Z ac boot_set ?_ (by decide) (by decide));refine YD (aW (ha pos2 C s B H _ I h) fun us k p=>?_) U rfl;obtain⟨vs,j,m,K,q1⟩:=p;obtain⟨b,d,rfl,R,hT,L,q⟩:=q1;obtain⟨u,rfl,G⟩:=L2.bA K;cases G;obtain⟨f,J,N,hz⟩:=m.list R;have ei:=Hr J;subst ei;have sz:(d.map fun x=>Value.ref x.1).toArray.size=d.length:=by simp
  have l:∀i (g:i<d.length),(d.getD i default)=d[i]:=fun i g=>by rw[G_,g_ g];rfl
  refine HT.iO (bs:=fun i=>(d.getD i default).1) (kk:=fun i=>(d.getD i default).2) W P N.isList (fun i v e=>?_) (fun i g=>?_) (by rw[sz];exact L) fun h' tk w O=>?_
  .rw[ŝ,l_]at e;cases z:d[i]? with
  |none=>rw[z]at e;cases e
  |some x=>rw[z]at e;cases e;rw[G_,z];rfl
  .rw[sz]at g;rw[l i g];obtain⟨f,M,Y,_⟩:=m.tuple (hT d[i] (Zv g));obtain⟨o,F,y,n,h3⟩:=(show k.heap.IsTuple d[i].1 f.toArray from Y)
   exact⟨o,f.toArray,n,F,y,h3,by simpa using Im M⟩
  .have e:(d_ d.length).map (fun i=>(d.getD i default).2)=d.map (·.2):=by refine š (by simp) fun i F y=>?_;rw[Ě,Ě,List.getElem_range,l i (by simpa using y)]
   unfold HT.gQ at w;rw[sz,e]at w;have:=HT.fold_le (d.map (·.2)) [];refine⟨_,_,j,rfl,m.kept O,w,?_,q⟩;rw[b_]at this;exact Y1 this (by simpa using L)
 .rintro u k ⟨S,c,j,rfl,m,⟨o,es,ep,t,ho,hex,hd,hf,r⟩,L,q⟩
  refine ŕ ?_;refine call_len_set ho hex hd hf ?_ ⟨.int c,j,m.tok _,⟨_,by rw[r]⟩,q⟩;rw[r];have h4:(c:Int)<=76:=by omega
  exact Qea h4 (by decide)
def ll:List D->Option (List (List Int))
|[]=>some []
|.tup ks::ds=>(cP ks).bind fun ns=>(ll ds).map (ns::·)
|_=>none
def oC:List D->Option D
|[.lst ds]=>(ll ds).bind fun nss=>if nss.length<=76 then some (.int (HT.DK nss:Nat))else none
|_=>none
theorem GZ{K:W.Frag}(Y:bi K G H):∀{ds:List D}{xs:List V}{U:List (List Int)},bJ K G xs ds->ll ds=some U->∃L:List (Addr×List Int),xs=(L.map fun x=>V.ref x.1)/\L.map (·.2)=U/\∀x∈L,cg K H x.1 (x.2.map V.int)
|[],_,_,r,e=>by cases r;cases e;exact⟨[],rfl,rfl,fun _ h=>(nomatch h)⟩
|d::ds,_,U,r,e=>by cases r with
 |@cons x _ xs _ g t=>
  unfold ll at e;split at e
  .rename_i q;cases q
  .rename_i ks ds' q;cases q;cases a:cP ks with
  |none=>rw[a]at e;cases e
  |some i=>rw[a]at e;cases Z:ll ds with
   |none=>rw[Z]at e;cases e
   |some c=>
     rw[Z]at e;cases e;obtain⟨L,k,j,o⟩:=GZ Y t Z;obtain⟨b,l,rfl,n,f⟩:=g.tup Y;have p:=ma Y f a;refine⟨(b,i)::L,by rw[k];rfl,by rw[<-j];rfl,fun y m=>?_⟩
     grind
  .cases e
theorem ID(w:X.calm=true)(o:X.A.units+64<Z9)(u:Gl X "len")(r:X.mg "len" = none)(Y:Gl X "set")(Z:X.mg "set" = none)(x:fF X g m [a] fl)(v:f_ [.Call (.Name "set" p2) [a] [] pos2] X.env=(false,eval (.Call (.Name "set" p2) [a] [] pos2) X.env)::f_ [] X.env:=by rfl)(U:f_ [a] X.env=(false,eval a X.env)::f_ [] X.env:=by rfl):SE X g m (.Call (.Name "len" p) [.Call (.Name "set" p2) [a] [] pos2] [] pos) (fC fl oC):=by
 refine eU ?_ (Th w o u r Y Z x v U);intro G H C E d Q i l e q;unfold oC at e;split at e
 .rename_i zs;cases j:ll zs with
 |none=>rw[j]at e;cases e
 |some c=>
   rw[j]at e;have k:(if c.length<=76 then some _ else none)=some d:=e;split at k
   .rename_i hn;cases k;cases l with
   |cons n t=>
    cases t;have L:∀{b:Addr}{h:List V},bp X.K H b h->bJ X.K G h zs->EF X [.ref b] H Q:=fun{b h} hs r2=>by
     obtain⟨f,B,z,y⟩:=GZ i r2 j;subst B;have s:f.length=c.length:=by grind
     exact⟨b,f,rfl,hs,y,by rw[s];exact hn,by rw[z];exact q _ G H (Grow.refl i) (.scl (.int _))⟩
    obtain⟨b,h,rfl,hs,r2⟩:=n.lst i;exact L hs r2
   .cases k
 .cases e
end
theorem gB.get{K:W.Frag}(h:gB K G fs ds)(l:ds.lookup f=some d):∃v,fs.lookup f=some v/\RG K G v d:=by induction h with
|nil=>cases l
|@cons p q fs ds r _ L=>grind
theorem gB.no{K:W.Frag}(h:gB K G fs ds)(l:ds.lookup f=none):fs.lookup f=none:=by induction h with
|nil=>rfl
|@cons p q fs ds r _ U=>
  obtain⟨a,v⟩:=p;obtain⟨b,Z⟩:=q;obtain⟨L,Y⟩:=r;have L:a=b:=L;subst L;rw[ŧ]at l ⊢;split at l
  .cases l
  .exact U l
theorem RB.ins{K:W.Frag}{G:GH}{H:Hp}{v:V}{k:Str}{nm:Str}{ds:List (Str×D)}(L:bi K G H)(h:RB K G H v (.obj 2 ((k,.str nm)::ds))):∃a C Y fs,v=.ref a/\H a=some (.ins C Y fs)/\XN K nm C/\gB K G fs ds/\RG K G v (.obj 2 ((k,.str nm)::ds)):=by
 rcases h with h|⟨a,rfl,h⟩
 .cases h with
 |scl s=>cases s
 |@ref a _ e=>have U:=e;cases L _ _ e with
  |ins r n f=>exact⟨_,_,_,_,rfl,r,n,f,.ref U⟩
 |kc k=>cases k
 .cases h.ob
def fT(K:W.Frag)(f:Str)(hit:Str->Bool):Prop:=∀nm C,hit nm=true->XN K nm C->Cls K C/\kj K C f
def gX(hit:Str->Bool)(f:Str):D->Option D
|.obj 2 ((_,.str nm)::ds)=>if hit nm=true then ds.lookup f else none
|_=>none
variable{e o:Expr}{es:List Expr}{fe fo:FE}{f nm mt:Str}{C:Addr}{apos:Pos}{hit:Str->Bool}
section
variable{ro:Bool}{mb:List Md}{x:Str}{np:Pos}
theorem mV(o:fT X.K f hit)(p:SB X g m e fe)(s:Ì e f X.env (eval e X.env)=eval e X.env:=by rfl):SE X g m (.Attribute e f pos) (f1 fe (gX hit f)):=by
 refine PE.imp (Mi p s) fun A H Q ⟨r,G,b,q⟩=>⟨r,G,b,bu (bv q) fun d q1 v z y U i=>?_⟩
 obtain⟨B,L,j⟩:=cJ q1;unfold gX at L;split at L
 .rename_i k nm ds;split at L
  .rename_i hh;obtain⟨a,C,w,u,rfl,t,Z,h,_⟩:=RB.ins U.ok i;obtain⟨x,n⟩:=o nm C hh Z;obtain⟨Y,l,c⟩:=h.get L;exact⟨a,C,w,u,Y,rfl,t,x,n,l,j Y z y U c⟩
  .cases L
 .cases L
def qZ(tab:Str->Option Bool):D->Option D
|.obj 2 ((_,.str nm)::_)=>(tab nm).map .bl
|_=>none
def kY(K:W.Frag)(c:Value)(tab:Str->Option Bool):Prop:=∀nm b C,tab nm=some b->XN K nm C->Cls K C/\W.findIn K (.ref C) "__class__" = some (some (.builtin "object.__class__")) /\W.specialIn K (.builtin "object.__class__") "__get__" = some (some (.builtin "getset_descriptor.__get__"))/\W.takesIn K (.builtin "object.__class__")=some true/\W.mroIn K C (.type "object")=some true/\W.kitOne K (.ref C) c=some b
theorem Qe(L:∀u,av cv u->u=c):dJ X (.builtin "isinstance") (fun xs H Q=>∃x t b,xs=[x,cv]/\TyOf X.K H x t/\W.kitOne X.K t c=some b/\Q (.bl b) H):=by intro i s d H xs g Q I r h;obtain⟨x,t,b,rfl,U,e,q⟩:=h;obtain⟨u,f,rfl,a,Z⟩:=rE r;have:=L _ Z;subst this;exact R6 I a U e fun Y=>⟨.bl b,H,I.tok Y,rfl,q⟩
theorem F8{f:Str->Option Bool}(Y:X.mg x=some (.ref T))(y:kY X.K (.ref T) f)(U:Gl X x)(A:Gl X "isinstance")(z:X.mg "isinstance" = none)(B:SB X g m e fe)(E:(x==("__debug__" : Str))=false:=by decide)(L:f_ [e,.Name x p2] X.env=(false,eval e X.env)::f_ [.Name x p2] X.env:=by rfl)(Z:f_ [.Name x p2] X.env=(false,eval (.Name x p2) X.env)::f_ [] X.env:=by rfl)(l:(backTo pos (f_ [.Name x p2] X.env)).any (·.1)=false:=by rfl):SE X g m (.Call (.Name "isinstance" p) [e,.Name x p2] [] pos) (f1 fe (qZ f)):=by
 refine PE.imp (i7 (Qe (c:=.ref T) (cv:=.ref T) fun u h=>h) A z (by first|exact QbS|rfl) (fZ B (fZ (GF (v:=.ref T) U Y rfl E) iZ Z) L) (by decide) (by decide) L l) fun W H Q ⟨r,G,s,q⟩=>⟨r,G,s,bu (bv q) fun d q1 v S R n t=>?_⟩
 obtain⟨d',i,w⟩:=cJ q1;unfold qZ at i;split at i
 .rename_i k nm ds;cases j:f nm with
 |none=>rw[j]at i;cases i
 |some b=>rw[j]at i;cases i;obtain⟨a,C,dx,fs,rfl,F,o,rf,_⟩:=RB.ins n.ok t;obtain⟨P,O,N,M,J,I⟩:=y nm b C j o;exact⟨.ref a,.ref C,b,rfl,.ins F P O N M J,I,w _ S R n (.scl (.bl _))⟩
 .cases i
end
theorem OV(h:fin (kL r) q x):fin r q fun _=>False:=by cases r with
|ok a=>exact h
|exc e=>exact(h).elim
|stuck=>exact(h).elim
def qi(K:W.Frag)(ro:Bool)(nm:Str)(ms:List Md)(F:List D->Res D):Sp:=fun vs H Q _=>∃G k fs ds,bi K G H/\ArgsOk K G H (.sh::ms) vs (.obj 2 ((k,.str nm)::fs)::ds)/\fin (F (.obj 2 ((k,.str nm)::fs)::ds)) (fun d=>∀v G' H',Grow K G H G' H'->RV ro K H G' H' v d->Q v H') fun _=>False
structure CalleeM(P:C_)(w:S_)(K:W.Frag)(mg:Str->Option Value)(base:Heap)(mt:Str)(ps:List Str)(k:Nat)(hit:Str->Bool)(ms:List Md)(F:List D->Res D):Prop where
 ex:∀nm C,hit nm=true->XN K nm C->Cls K C/\∃f fd,Meth K C mt f/\jg K fd ps []/\FnOk P w K mg base fG k f fd ps (qi K false nm ms F)
theorem MY{K:W.Frag}(Z:∀k fs ds,U (.obj 2 ((k,.str nm)::fs)::ds)=F (.obj 2 ((k,.str nm)::fs)::ds)){H:Hp}{Q:VK}{E:XK}(h:qi K L nm ms U vs H Q E):ku K L (.sh::ms) F vs H Q E:=by obtain⟨G,k,fs,ds,a,Y,q⟩:=h;rw[Z]at q;exact⟨G,_,a,Y,q⟩
def uZ(hit:Str->Bool)(F F':List D->Res D):List D->Res D
|.obj 2 ((k,.str nm)::fs)::ds=>if hit nm=true then F (.obj 2 ((k,.str nm)::fs)::ds)else F' (.obj 2 ((k,.str nm)::fs)::ds)
|_=>.stuck
variable{P:C_}{w:S_}{K:W.Frag}{mg:Str->Option Value}{base:Heap}{ps:List Str}{ms:List Md}{F:List D->Res D}
section
variable{k:Nat}{hit':Str->Bool}{F':List D->Res D}
theorem Hi(U:∀k fs ds,F' (.obj 2 ((k,.str nm)::fs)::ds)=F (.obj 2 ((k,.str nm)::fs)::ds))(h:qi K false nm ms F' vs H Q E):qi K false nm ms F vs H Q E:=by obtain⟨G,k,fs,ds,Y,L,q⟩:=h;rw[U]at q;exact⟨G,k,fs,ds,Y,L,q⟩
theorem CalleeM.mono(c:CalleeM P w K mg base mt ps j hit ms F)(h:j<=k):CalleeM P w K mg base mt ps k hit ms F:=⟨fun U C Y L=>let⟨d,f,a,m,b,Z⟩:=c.ex U C Y L;⟨d,f,a,m,b,Z.mono h⟩⟩
theorem CalleeM.or(c:CalleeM P w K mg base mt ps k hit ms F)(j:CalleeM P w K mg base mt ps k hit' ms F'):CalleeM P w K mg base mt ps k (fun nm=>hit nm || hit' nm) ms (uZ hit F F'):=by refine⟨fun nm C a Z=>?_⟩;cases e:hit nm with
|true=>obtain⟨Y,f,U,m,b,L⟩:=c.ex nm C e Z;refine⟨Y,f,U,m,b,L.imp fun d H Q E h=>Hi (fun k g i=>?_) h⟩;show(if hit nm=true then _ else _)=_;rw[Q_e e]
|false=>rw[e,Qfv]at a;obtain⟨Y,f,U,m,b,L⟩:=j.ex nm C a Z;refine⟨Y,f,U,m,b,L.imp fun d H Q E h=>Hi (fun k g i=>?_) h⟩;show(if hit nm=true then _ else _)=_;simp_all
end
def lR(hit:Str->Bool)(mt:Str)(fo:FE)(fl:am->Res (List D))(F:List D->Res D):FE:=fun r=>(fo r).bind fun d=>match d with
|.obj 2 ((k,.str nm)::fs)=>if hit nm=true/\fs.lookup mt=none then(fl r).bind fun ds=>kL (F (.obj 2 ((k,.str nm)::fs)::ds))else .stuck
|_=>.stuck
section
variable{k:Nat}
theorem xH{S:Sem Bool}(c:CalleeM X.prog X.w X.K X.mg X.base mt ps k hit ms F)(hr:Room k X.A)(ho:SE X g m o fo)(ha:jL X g m (e::es) ms fl)(Y:f_ (e::es) X.env=(false,eval e X.env)::f_ es X.env:=by rfl)(h:(backTo pos (f_ es X.env)).any (·.1)=false:=by rfl)(T:eval (.Call (.Attribute o mt apos) (e::es) [] pos) X.env=(do
   let ov <-eval o X.env
   Ą apos.atName
   let(f,first) <-ñ [ov] (ŀ ov mt S)
   callWith pos f first (backTo pos (f_ (e::es) X.env)) (Ò pos (Ð [] X.env))):=by rfl):SE X g m (.Call (.Attribute o mt apos) (e::es) [] pos) (lR hit mt fo fl F):=by
 intro R s p H Q I ⟨r,G,j,q⟩;refine TR ho I ⟨r,G,j,bu (bv q) fun d q1 v G1 H1 Z O=>?_⟩ T;split at q1
 .rename_i k nm fs;split at q1
  .rename_i hh;obtain⟨a,C,dx,fv,rfl,U,u,M,J⟩:=RB.ins Z.ok O.rb;obtain⟨cl,f,fd,l,bd,L⟩:=c.ex nm C hh.1 u;refine⟨a,C,dx,fv,f,rfl,U,cl,l,M.no hh.2,fun z I1=>?_⟩;refine W.callWith_K I.ok.mod.kin l.kp (aW (ha pos R z p H1 (fun vs i=>qi X.K false nm ms F (.ref a::vs) i Q (fun _ _ _=>False)) I1 ⟨r,G1,j.grow Z,?_⟩) fun us s2 ⟨vs,i,n,N,q2⟩=>⟨n.kIn,?_⟩) Y h
   .cases ez:fl r with
   |ok t=>rw[ez,bind_ok]at q1;intro vs G2 i b E;have P:=OV q1;exact⟨G2,_,fs,t,b.ok,.sh (J.mono b.ge) E,bu P fun d k v G3 H3 y B=>k v G3 H3 (Z.trans (b.trans y)) B⟩
   |exc x=>rw[ez]at q1;exact XW.grow q1 Z
   |stuck=>rw[ez]at q1;exact q1
   .exact F6 (vs:=.ref a::vs) L hr bd .nil rG n (.cons rfl N) (by grind)
  .exact q1.elim
 .exact q1.elim
end
structure MethAt(K:W.Frag)(nm mt qual:Str)(st:Stmt):Prop where
 ex:∃C f fd,(∀C',XN K nm C'->C'=C)/\Cls K C/\Meth K C mt f/\Fun K mt qual st f fd
theorem yR{st:Stmt}{m':List Md}(A:MethAt K nm d Z st)(S:FnScope N ps (ab st))(Y:ms.length+1=ps.length)(o:∀(kV i l:Value)(u:Option Addr)(a r:Value)(c:List Value),c.length=ps.length->Ó (W.fnOf d Z (aX st) (aC st) (ab st) .none kV i l u a r) ⟨c,[]⟩=pure (ps.zip c))(L:∀(f:Addr)(a:Value)(A:T_)(b:List Env)(s:c_)(H:Hp)(g:GE)(E:XK),Room k (A.deeper (ä Z (ab st) s.heap.objs.size f a)) ->fS (dF fG P w K mg base N Z (ab st) f a A b s H E).nox g false [] (iy N.length (.sh::ms)) (aC st) fs m'):CalleeM P w K mg base d ps (k+1) (fun x=>x==nm) ms fun ds=>cX false (fs (bP N.length ds)):=by obtain⟨C,f,q,p,t,m,F⟩:=A.ex;refine⟨fun U v n j=>?_⟩;have e:=í n;subst e;have:=p v j;subst this;exact⟨t,f,q,m,F.binds o,(wG F S (by omega) (L f)).imp fun y H Q E h=>MY (by simp_all) h⟩
def rJ(f:Str)(v:D):List (Str×D)->List (Str×D)
|[]=>[(f,v)]
|(g,x)::r=>if g=f then(g,v)::r else(g,x)::rJ f v r
theorem gB.put(r:RG K G y d)(h:gB K G fs ds):gB K G (L2.putF f y fs) (rJ f d ds):=by induction h with
|nil=>exact .cons ⟨rfl,r⟩ .nil
|@cons p q fs ds L t Y=>
  obtain⟨a,v⟩:=p;obtain⟨b,Z⟩:=q;have U:=L.1;subst U;show gB K G (if a=f then(a,y)::fs else(a,v)::L2.putF f y fs) (if a=f then(a,d)::ds else(a,Z)::rJ f d ds);by_cases z:a=f
  .rw[Q_e z,Q_e z];exact .cons ⟨rfl,r⟩ t
  .rw[Q_f z,Q_f z];exact .cons L Y
theorem gB.mono(h:gB K G fs ds)(U:∀a d,G a=some d->L a=some d):gB K L fs ds:=Paired.mono (fun _ _ r=>⟨r.1,r.2.mono U⟩) h
theorem gB.len(h:gB K G fs ds):fs.length=ds.length:=by induction h with
|nil=>rfl
|cons _ _ L=>simp_all
section
variable{r:am}{G G':GH}{σ:L2.St}{H H':Hp}{x dx:Addr}{fs fs':List (Str×V)}
theorem SI.ins(s:SI X g m r G σ H)(e:H x=some (.ins C dx fs))(j:g.h0 x=none)(k:G x=none):SI X g m r G σ (aO H x (.ins C dx fs')):=by
 have c:∀b d,G b=some d->b≠x:=fun b d h z=>by simp_all
 have L:∀{b:Addr}{d:D},Own X.K G H b d->b≠x:=fun{b d} o z=>by subst z;cases o.ob with
 |lst r _=>rw[e]at r;cases r
 |dic r _=>rw[e]at r;cases r
 have f:∀{b:Addr}{d:D},Own X.K G H b d->Own X.K G (aO H x (.ins C dx fs')) b d:=fun{b d} o=>⟨o.un,o.ob.mono (by grind) fun u U=>by rw[bN (L o)];exact U⟩
 refine⟨fun b d h=>(s.gok b d h).mono (by grind) fun u U=>by rw[bN (c b d h)];exact U,fun b u h=>?_,s.ge,s.gf,s.lm,s.lr,s.sh,fun i d Z Y=>?_,fun i d Z Y=>?_,s.dis,s.lk⟩
 .rw[bN (by grind)];exact s.old b u h
 .obtain⟨a,q1,q2,q3⟩:=s.ow i d Z Y;simp_all
 .obtain⟨v,q1,q2⟩:=s.bw i d Z Y;refine⟨v,q1,?_⟩;rcases q2 with q2|⟨a,rfl,q2,q3⟩
  .exact .inl q2
  .exact .inr (by simp_all)
end
abbrev FN:=am->List (Str×D)->Res (List (Str×D))
structure NI(X:Cx)(g:GE)(m:List Md)(x C dx:Addr)(r:am)(ds:List (Str×D))(G:GH)(σ:L2.St)(H:Hp):Prop where
 si:SI X g m r G σ H
 me:σ[0]? = some (some (V.ref x))
 ob:∃fs,H x=some (.ins C dx fs)/\gB X.K G fs ds
 od:H dx=some (.own x)
 gx:G x=none
 hx:g.h0 x=none
 hd:g.h0 dx=none
def Dz(X:Cx)(g:GE)(m:List Md)(x C dx:Addr)(r:am)(G:GH)(σ:L2.St)(E:Ends):Res (List (Str×D))->Prop
|.ok ds=>∀G' H',bI G G'->NI X g m x C dx r ds G' σ H'->E.nx σ H'
|_=>False
def tN(X:Cx)(g:GE)(m:List Md)(C:Addr)(f:FN):TS:=fun D σ H=>∃r ds G x dx,NI X g m x C dx r ds G σ H/\Dz X g m x C dx r G σ D (f r ds)
def qL(X:Cx)(g:GE)(m:List Md)(C:Addr)(st:List Stmt)(f:FN):Prop:=dI X st (tN X g m C f)
def K1{α:Type}(x:Res α)(k:α->Res (List (Str×D))):Res (List (Str×D)):=match x with
|.ok a=>k a
|_=>.stuck
section
variable{x0:Str}{pos':Pos}{sts:List Stmt}{s2:FN}
theorem vU:qL X g m C [] fun _ ds=>.ok ds:=dI.imp GJ fun D U H k=>by obtain⟨r,ds,G,x,Y,L,q⟩:=k;exact q G H (bI.refl G) L
def gy(f:Str)(fe:FE)(s2:FN):FN:=fun r ds=>K1 (fe r) fun d=>if ds.length<900 then s2 r (rJ f d ds)else .stuck
theorem OX{k:L->Res (List (Str×DL.D))}{D:Ends}{a U:Addr}{G:GH}{σ:L2.St}{Z:DL.D->Prop}(h:Dz X g m a C U r G σ D (K1 x k)):fin x (fun y=>Dz X g m a C U r G σ D (k y)) Z:=by cases x with
|ok a=>exact h
|exc e=>exact(h).elim
|stuck=>exact h
theorem rX(o:Cls X.K C)(c:kj X.K C f)(hN:X.N[0]? = some x0)(j:ik X.env.scope x0)(k:SE X g m e fe)(n:qL X g m C sts s2)(l:(x0==("__debug__" : Str))=false:=by decide)(U:(x0==("__classdict__" : Str))=false:=by decide)(hs:ï e (some (.Attribute (.Name x0 p) f pos')) pos.line X.env=pure false:=by rfl):qL X g m C (.Assign [.Attribute (.Name x0 p) f pos'] e pos::sts) (gy f fe s2):=by
 refine dI.imp (zx (M9 (lq hN j l U) k hs) n) fun D w H ⟨r,B,G,x,a,Y,q⟩=>⟨r,G,Y.si,bu (OX q) fun d q1 v t E Z b=>?_⟩
 split at q1
 .obtain⟨fs,hx,rf⟩:=Y.ob;have L:=Z.he _ _ hx;refine⟨_,Y.me,x,C,a,fs,rfl,L,o,c,by rw[rf.len];omega,r,_,t,x,a,⟨(Y.si.grow Z).ins L Y.hx ?_,Y.me,⟨_,bV,(rf.mono Z.ge).put b⟩,?_,?_,Y.hx,Y.hd⟩,?_⟩
  .rw[Z.gf x (by rw[hx];simp)];exact Y.gx
  .rw[bN (fun z=>by have A:=Z.he _ _ Y.od;grind)];exact Z.he _ _ Y.od
  .rw[Z.gf x (by rw[hx];simp)];exact Y.gx
  .cases ez:s2 r _ with
  |ok y=>rw[ez]at q1;exact fun u s i h=>q1 u s (bI.trans Z.ge i) h
  |exc e=>rw[ez]at q1;exact q1
  |stuck=>rw[ez]at q1;exact q1
 .exact(q1).elim
end
abbrev lO:=List D->Res (List (Str×D))
def mB(K:W.Frag)(C:Addr)(nm:Str)(ms:List Md)(F:lO):Sp:=fun vs H Q _=>∃G H1 x dx us ds,H=aO (aO H1 dx (.own x)) x (.ins C dx [])/\H1 x=none/\H1 dx=none/\dx≠x/\vs=.ref x::us/\bi K G H1/\ArgsOk K G H1 ms us ds /\fin (F ds) (fun fd=>∀G' H',Grow K G H1 G' H'->G' x=some (iD nm fd)->Q .non H') fun _=>False
structure CalleeN(P:C_)(w:S_)(K:W.Frag)(mg:Str->Option Value)(base:Heap)(x nm:Str)(ps:List Str)(dv:List Value)(k:Nat)(ms:List Md)(F:lO):Prop where
 ex:∃C f fd,mg x=some (.ref C)/\Mk K C f/\jg K fd ps dv/\FnOk P w K mg base fG k f fd ps (mB K C nm ms F)
def il(nm:Str)(fl:am->Res (List D))(dds:List D)(F:lO):FE:=fun r=>(fl r).bind fun ds=>match F (ds++dds)with
|.ok fd=>.ok (iD nm fd)
|_=>.stuck
section
variable{ms':List Md}{x:Str}{k:Nat}{F:lO}{dvs:List V}{dv:List Value}{dds:List D}
theorem make_core{Q:VK}(l:bi X.K G H)(g:ArgsOk X.K G H ms vs Y)(L:Paired Scl dvs dds)(q:fin (match F (Y++dds)with|.ok f=>Res.ok (iD nm f)|_=>.stuck) (fun d=>∀v b Z,Grow X.K G H b Z->RG X.K b v d->Q v Z) fun _=>False):∀a U,H a=none->H U=none->U≠a->mB X.K C nm (ms++t_ dds.length .sh) F (.ref a::(vs++dvs)) (aO (aO H U (.own a)) a (.ins C U [])) (fun v m=>v=.non/\Q (.ref a) m) E0:=by intro a U k j i;refine⟨G,H,a,U,vs++dvs,Y++dds,rfl,k,j,i,rfl,l,g.app L,?_⟩;cases c:F (Y++dds)with
|ok f=>rw[c]at q;exact fun b Z w h=>⟨rfl,q _ b Z w (.ref h)⟩
|exc e=>rw[c]at q;exact(show False from q).elim
|stuck=>rw[c]at q;exact(show False from q).elim
theorem lu(c:CalleeN X.prog X.w X.K X.mg X.base x nm ps dv k ms' F)(o:Room (k+1) X.A)(u:jL X g m (e::es) ms fl)(Y:ms'=ms++t_ dds.length .sh:=by rfl)(s:Gl X x:=by rfl)(t:ar dvs dv:=by exact .nil)(U:Paired Scl dvs dds:=by exact .nil)(L:(x==("__debug__" : Str))=false:=by decide)(Z:f_ (e::es) X.env=(false,eval e X.env)::f_ es X.env:=by rfl)(a:(backTo pos (f_ es X.env)).any (·.1)=false:=by rfl):SE X g m (.Call (.Name x p) (e::es) [] pos) (il nm fl dds F):=by
 subst Y;obtain⟨C,f,P,E,B,z,y⟩:=c.ex;refine PE.imp (Oq B y o s E z t rG u L Z a) fun M H Q ⟨r,G,j,q⟩=>⟨r,G,j,?_⟩
 unfold il at q;cases b:fl r with
|ok N=>rw[b,bind_ok]at q;intro O S R h n;refine make_core h.ok n U (bu (Aa q ?_) fun d k v J I i l=>k v J I (h.trans i) l);intro e Z;split at Z <;> cases Z
|exc x=>rw[b]at q;exact q
|stuck=>rw[b]at q;exact q
end
structure MakeAt(K:W.Frag)(mg:Str->Option Value)(x nm qual:Str)(st:Stmt):Prop where
 ex:∃C f fd,mg x=some (.ref C)/\XN K nm C/\Cls K C/\Mk K C f/\Fun K "__init__" qual st f fd
theorem Qx(l:bi X.K G H)(s:ArgsOk X.K G H ms c ds)(u:ms.length+1<=N.length)(n:H x=none)(B:H Z=none)(A:Z≠x):NI X ⟨G,H,fun _=>none⟩ (iy N.length (.sh::ms)) x C Z (none::(ds.map some++t_ (N.length-(ds.length+1)) none)) [] G (L2.bB N (.ref x::c)) (aO (aO H Z (.own x)) x (.ins C Z [])):=by
 have Y:=HG l (.sh (.scl .non) s) (by simpa using u);have E:(L2.bB N (.ref x::c)).length=(L2.bB N (.non::c)).length:=by unfold L2.bB;simp
 have L:∀i,i≠0->(L2.bB N (.ref x::c))[i]? = (L2.bB N (.non::c))[i]?:=fun i m=>by
  obtain⟨j,rfl⟩:∃j,i=j+1:=⟨i-1,by omega⟩
  unfold L2.bB;simp
 have g:∀i d,(none::(ds.map some++t_ _ none))[i]? = some (some d)->i≠0/\(bP N.length (.non::ds))[i]? = some (some d):=fun i d h=>by cases i with
 |zero=>simp at h
 |succ j=>unfold bP;simpa using h
 have w:Grow X.K G H G (aO (aO H Z (.own x)) x (.ins C Z [])):=by
  have y:∀b o,H b=some o->aO (aO H Z (.own x)) x (.ins C Z []) b=some o:=fun b o k=>by rw[bN (by grind),bN (by grind)];exact k
  exact⟨fun b d k=>(l b d k).mono (by simp_all) (by simp_all),y,fun _ _ z=>z,fun _ _=>rfl⟩
 have r:SI X ⟨G,H,fun _=>none⟩ (iy N.length (.sh::ms)) (none::(ds.map some++t_ (N.length-(ds.length+1)) none)) G (L2.bB N (.ref x::c)) H:=by
  refine⟨Y.gok,Y.old,Y.ge,Y.gf,by exact Y.lm,?_,fun i d h f=>?_,fun i d h f=>?_,fun i d h f=>?_,fun i j a d e U m v=>?_,fun i o h=>(nomatch h)⟩
  .rw[E,<-Y.lr];unfold bP;simp
  .obtain⟨z,q⟩:=g i d h;rw[L i z];exact Y.sh i d q f
  .obtain⟨z,q⟩:=g i d h;rw[L i z];exact Y.ow i d q f
  .obtain⟨z,q⟩:=g i d h;rw[L i z];exact Y.bw i d q f
  .obtain⟨z,q⟩:=g i d m;obtain⟨p,t⟩:=g j e v;rw[L i z,L j p];exact Y.dis i j a d e U q t
 refine⟨r.grow w,?_,⟨[],bV,.nil⟩,by rw[bN A,bV],l.isN n,n,B⟩;unfold L2.bB;simp
theorem NM{x Z nm:Str}{st:Stmt}{f C:Addr}{ms:List Md}{fn:FN}(F:Fun K "__init__" Z st f l)(u:XN K nm C)(S:FnScope N ps (ab st))(U:ms.length+1=ps.length)(L:∀(c:Value)(A:T_)(Y:List Env)(s:c_)(H:Hp)(g:GE)(E:XK),Room k (A.deeper (ä Z (ab st) s.heap.objs.size f c)) ->qL (dF fG P w K mg base N Z (ab st) f c A Y s H E).nox g (iy N.length (.sh::ms)) C (aC st) fn):FnOk P w K mg base fG (k+1) f l ps (mB K C nm ms fun ds=>fn (none::(ds.map some++t_ (N.length-(ds.length+1)) none)) []):=by
 refine F.ok S (fun v H Q E k=>by obtain⟨G,t,a,r,y,ds,_,_,_,_,J,p,m,q⟩:=k;rw[J,I_,m.len.1];exact U) fun c A Y s H v Q E M h=>?_;obtain⟨G,t,a,r,y,ds,rfl,o,W,T,rfl,p,m,q⟩:=h;have O:ps.length<=N.length:=by have:=Q_h Z5 S.pre;rw[Zj]at this;omega
 refine⟨_,L c A Y s _ ⟨G,t,fun _=>none⟩ E M,_,[],G,a,r,Qx p m (by omega) o W T,?_⟩;cases n:fn (none::(ds.map some++t_ (N.length-(ds.length+1)) none)) []with
|ok l=>simp only[n]at q;have I:=q;intro G' X le i;obtain⟨fs,R,B⟩:=i.ob;have w:=i.si.grown;refine I (gset G' a (iD nm l)) X ⟨i.si.gok.gset i.gx (.ins R u B),w.he,fun b d j=>jl i.gx b d (w.ge b d j),fun b j=>?_⟩ ga;rw[ly (fun z=>j (by rw[z];exact o))];exact w.gf b j
|exc e=>simp only[n]at q;exact q
|stuck=>simp only[n]at q;exact q
theorem yQ{st:Stmt}(A:MakeAt K mg x nm Y st)(S:FnScope N ps (ab st))(U:ms.length+1=ps.length)(i:∀(kV c e:Value)(n:Option Addr)(Z m:Value)(b:List Value),b.length=ps.length->Ó (W.fnOf "__init__" Y (aX st) (aC st) (ab st) .none kV c e n Z m) ⟨b,[]⟩=pure (ps.zip b))(L:∀(C:Addr),XN K nm C->∀(f:Addr)(Z:Value)(A:T_)(a:List Env)(s:c_)(H:Hp)(g:GE)(E:XK),Room k (A.deeper (ä Y (ab st) s.heap.objs.size f Z)) ->qL (dF fG P w K mg base N Y (ab st) f Z A a s H E).nox g (iy N.length (.sh::ms)) C (aC st) fn):CalleeN P w K mg base x nm ps [] (k+1) ms fun ds=>fn (none::(ds.map some++t_ (N.length-(ds.length+1)) none)) []:=by obtain⟨C,f,l,j,d,o,h,F⟩:=A.ex;exact⟨C,f,l,j,h,F.binds i,NM (x:=x) F d S U (L C d f)⟩
end DL
namespace DL
open PySem PySem.Spec PyProof.Rows L2 PySem.W PySem.Calls
def ju(K:W.Frag)(nm:Str)(c:Addr):Bool:=K.all fun e=>match e.2.data with
|.cls cd=>cd.name != nm || e.1==c
|_=>true
end DL
namespace DL
open PySem PySem.Spec PyProof.Rows L2
def nr(s:Stmt)(j:Nat):Stmt:=match s with
|.ClassDef _ _ _ b _ _ _ _ _ _ _=>b.getD j s
|_=>s
def qo:D->Bool
|.non=>true
|.bl _=>true
|.int _=>true
|.str _=>true
|_=>false
theorem RB.sc{K:W.Frag}(h:RB K G H v d)(L:qo d=true):RG K G v d:=by
 rcases h with h|⟨a,rfl,h⟩
 .exact h
 .cases h.ob with
 |lst _ _=>cases L
 |dic _ _=>cases L
def qr(m:List Md)(f:FE):FS:=fun r=>iG m r (f r) fun d=>if qo d=true then .rt d else .stuck
section
variable{X:Cx}{g:GE}{m mb:List Md}{e:Expr}{f:FE}{pos:Pos}
theorem MT(Y:SB X g m e f):SS X g false mb m (.Return (some e) pos) (qr m f) m:=by
 refine⟨rfl,PS.imp (oM Y) fun D b H ⟨r,G,L,q⟩=>⟨r,G,L,bu (fY L rfl q) fun d q v a Z w U=>?_⟩⟩;split at q
 .rename_i hd;exact q v a Z (L.grow w).grown (U.sc hd)
 .exact q.elim
end
def gN(K:W.Frag)(C:Addr)(nm:Str):Bool:=match K.lookup C with
|some o=>(match o.data with
 |.cls cd=>cd.name==nm
 |_=>false)
|none=>false
theorem LC{K:W.Frag}(h:gN K C nm=true):XN K nm C:=by
 unfold gN at h;split at h
 .rename_i o e;split at h
  .rename_i cd ed;exact⟨o,cd,e,ed,í h⟩
  .cases h
 .cases h
structure OC(K:W.Frag)(nm:Str)(C:Addr):Prop where
 un:∀C',XN K nm C'->C'=C
 xn:XN K nm C
 cl:Cls K C
theorem uM{K:W.Frag}(x:gN K C nm=true)(u:ju K nm C=true)(a:W.plainGet K C Đ=true)(b:W.hasDictIn K C=true)(c:W.plainOver K C=true)(d:W.findIn K (.ref C) "__setattr__" = some (some (.builtin "object.__setattr__"))):OC K nm C:=⟨fun L h=>XN.uniq h u,LC x,⟨a,b,c,d⟩⟩
theorem uN{K:W.Frag}(l:List (Str×Addr))(h:∀q∈l,OC K q.1 q.2/\kj K q.2 f)(b:∀nm,L nm=true->nm∈l.map (·.1)):fT K f L:=fun nm C a U=>by obtain⟨q,Z,rfl⟩:=F_.mp (b nm a);obtain⟨o,Y⟩:=h q Z;rw[o.un C U];exact⟨o.cl,Y⟩
theorem KU{K:W.Frag}(i:W.specialIn K (.builtin "object.__class__") "__get__" = some (some (.builtin "getset_descriptor.__get__")))(g:W.takesIn K (.builtin "object.__class__")=some true)(l:List (Str×Addr×Bool))(h:∀q∈l,OC K q.1 q.2.1/\W.findIn K (.ref q.2.1) "__class__" = some (some (.builtin "object.__class__"))/\W.mroIn K q.2.1 (.type "object")=some true/\W.kitOne K (.ref q.2.1) c=some q.2.2)(a:∀nm b,L nm=some b->∃q∈l,q.1=nm/\q.2.2=b):kY K c L:=fun nm b C Z U=>by obtain⟨q,Y,rfl,rfl⟩:=a nm b Z;obtain⟨o,f,e,d⟩:=h q Y;rw[o.un C U];exact⟨o.cl,f,i,g,e,d⟩
theorem C3{K:W.Frag}{st:Stmt}(o:OC K nm C)(a:W.findIn K (.ref C) U=some (some (.ref f)))(Z:W.isFn K (.ref f)=true)(F:Fun K U L st f Y):MethAt K nm U L st:=⟨C,f,Y,o.un,o.cl,⟨a,Z,F.kp⟩,F⟩
theorem C2{K:W.Frag}{st:Stmt}(o:OC K nm C)(Z:U x=some (.ref C))(d:W.makesIn K C=true)(c:W.findIn K (.ref C) "__init__" = some (some (.ref f)))(b:W.isFn K (.ref f)=true)(a:W.keepIn K (.ref C)=true)(F:Fun K "__init__" L st f Y):MakeAt K U x nm L st:=⟨C,f,Y,Z,o.xn,o.cl,⟨d,c,b,a⟩,F⟩
end DL
namespace DL
open PySem PySem.Spec PyProof.Rows L2 PySem.W
end DL
namespace DL
open PySem PySem.Spec PyProof.Rows L2 PySem.W PySem.Calls
def mR(K:W.Frag)(r:V->List V->Hp->VK->Prop)(mk:D->List D->Option D):Prop:=∀(G:GH)(H:Hp)(a:Addr)(d:D)(vs:List V)(ds:List D)(d':D)(Q:VK),bi K G H->Own K G H a d->bJ K G vs ds->mk d ds=some d' ->(∀o' v,OwnO K G (aO H a o') a d'->Q v (aO H a o'))->r (.ref a) vs H Q
variable{X:Cx}{g:GE}{m mb:List Md}{fl:am->Res (List D)}{pos pos' apos cpos:Pos}{ro:Bool}{name:Str}{T id:String}{R:V->List V->Hp->VK->Prop}{mk:D->List D->Option D}
section
variable{x:Str}
theorem R4(i:Nat)(j:m[i]? = some .ow)(z:mR X.K R mk)(h:tS X g ro m m mb (dq T m i fl mk) q σ H):∃v,σ[i]? = some (some v)/\nW X.K T v H/\tL X g m fl σ H fun xs B=>R v xs B fun _ C=>q.nx σ C:=by obtain⟨r,G,b,k⟩:=h;unfold dq at k;cases Z:r[i]? with
|none=>simp only[Z]at k;exact(k).elim
|some u=>cases u with
 |none=>simp only[Z]at k;exact(k).elim
 |some d=>
   simp only[Z]at k;by_cases e:qg T d=true
   .rw[Q_e e]at k;obtain⟨a,l,A,F⟩:=b.mut j Z;refine⟨_,l,FY A e,r,G,b,bu (fY b rfl k) fun n c s p E w t=>?_⟩;cases f:mk d n with
   |none=>simp only[f]at c;exact(c).elim
   |some o=>simp only[f]at c;obtain⟨I,L,Y,U⟩:=(b.grow w).mut j Z;rw[l]at L;cases L;exact z p E a d s n o _ w.ok Y t f fun y _ x=>c σ p _ w.ge (U y o x)
   .rw[Q_f e]at k;exact(k).elim
end
section
variable{e:Expr}{es:List Expr}{x:Str}
theorem F9(i:Nat)(d:m[i]? = some .ow)(b:ľ T)(a:Slot T name id)(n:typeOf (.builtin id)=pure (.type "method_descriptor"))(p:mS X id R)(f:mR X.K R mk)(hN:X.N[i]? = some x)(c:ik X.env.scope x)(k:SA X g m (e::es) fl)(j:(x==("__debug__" : Str))=false:=by decide)(o:(x==("__classdict__" : Str))=false:=by decide)(U:Ì (.Name x pos') name X.env (eval (.Name x pos') X.env)=eval (.Name x pos') X.env:=by rfl)(Z:((backTo cpos (f_ (e::es) X.env)).all (fun x=>! x.1)&&(Ò cpos (Ð [] X.env)).all (fun x=>x.1.isSome)&&decide ((e::es).length+([]:List À).length+(if ([]:List À).isEmpty then 0 else 1)<30))=true:=by rfl)(Y:(apos.endLine==cpos.line)=true:=by rfl)(l:f_ (e::es) X.env=(false,eval e X.env)::f_ es X.env:=by rfl)(L:(backTo cpos (f_ es X.env)).any (·.1)=false:=by rfl):SS X g ro mb m (.Expr (.Call (.Attribute (.Name x pos') name apos) (e::es) [] cpos) pos) (dq T m i fl mk) m:=⟨rfl,PS.imp (GI (vX b a n p (lq hN c j o) k U Z Y l L)) fun r q H h=>R4 i d f h⟩
end
def Fm:D->List D->Option D
|.lst ds,[.int i]=>if 0<=i/\i.toNat<ds.length/\ds.length<=1000 then some (.lst (ds.eraseIdx i.toNat))else none
|_,_=>none
theorem SK(U:0<=i)(L:i.toNat<n):ģ i n=some i.toNat:=by
 unfold ģ
 grind
theorem HU{K:W.Frag}:mR K F4 Fm:=by
 intro G H a d g l m Q f Z U e q;unfold Fm at e;split at e
 .rename_i zs i;split at e
  .rename_i hz;obtain⟨c,k,j⟩:=hz;cases e;cases Z.ob with
  |@lst L _ r s=>cases U with
   |cons Y t=>cases t;have h:=Paired.length s;have b:=Y.int f;subst b;refine⟨a,L,i,i.toNat,_,rfl,rfl,r,by omega,by omega,SK c (by omega),g_ (by omega),q _ _ (.lst bV (Paired.er _ s))⟩
  .cases e
 .cases e
abbrev Ep(n:Str)(i:Int):PyData:=.tuple [.str n,.int i]
def qm(n:Str)(i:Int):Prop:=(Ep n i).showable=true/\(Ep n i).shown.length<=1000
instance (n:Str) (i:Int):Decidable (qm n i):=by unfold qm;infer_instance
end DL
namespace DL
open PySem PySem.Spec PyProof.Rows L2 PySem.W PySem.Calls PySem.Builtin PySem.Builtin.Str
end DL
namespace DL
open PySem PySem.Spec PyProof.Rows L2 PySem.W PySem.Calls
section
variable{X:Cx}{g:GE}{ro:Bool}{m mb:List Md}{a e:Expr}{fl:am->Res (List D)}{fe:FE}{x f nm:Str}{C:Addr}{p np pos q1 q2 q3:Pos}
def mK(T1 T2:String)(d:D):Option D:=(i9 d).map fun t=>.bl (cQ t T1 || cQ t T2)
theorem MB(K:W.Frag)(d:D)(t:String)(h:i9 d=some t):kitAny K (.type t) [.type "list",.type "tuple"]=some (cQ t "list" || cQ t "tuple"):=pH (P:=fun t=>kitAny K (.type t) [.type "list",.type "tuple"]=some (cQ t "list" || cQ t "tuple")) h (rfl) (rfl) (rfl) (rfl) (by kernel_rfl) (by kernel_rfl) (rfl)
theorem Rp:dJ X (.builtin "isinstance") (fun xs H Q=>∃(x:V)(d:Addr)(t:String)(b:Bool),xs=[x,.ref d]/\H d=some (.tup [.ty T1,.ty T2])/\DQ X.K x H t/\kitAny X.K (.type t) [.type T1,.type T2]=some b/\Q (.bl b) H):=by intro z s k H xs O Q I r h;obtain⟨x,d,t,b,rfl,E,Y,e,q⟩:=h;obtain⟨u,N,rfl,Z,v⟩:=rE r;cases(v);obtain⟨_,a,w,⟨o,U,B,n,o3⟩,_⟩:=I.hok d _ E;obtain⟨R,P,L,A⟩:=o;subst B o3;cases w with
|cons M m=>cases m with
|cons J l=>
 cases l;cases M;cases J;have fin:∀f,EP X z k Q _ { s with toks:=f }:=fun f=>⟨.bl b,H,I.tok f,rfl,q⟩
 cases x with
|non=>cases Z;cases(Y);exact Õ kitx_none I.kIn True.intro U e (by grind) fin
|bl y=>cases Z;cases(Y);exact Õ kitx_bool I.kIn True.intro U e (by grind) fin
|int i=>obtain⟨t,rfl⟩:=Z;cases Y;exact Õ kitx_int I.kIn True.intro U e (by grind) fin
|str i=>obtain⟨t,rfl⟩:=Z;cases Y;exact Õ kitx_str I.kIn True.intro U e (by grind) fin
|ref p=>
  cases Z;rcases Y with⟨rfl,xs,c⟩|⟨rfl,xs,c⟩|⟨rfl,C,c⟩
  .obtain⟨a,_,pl,_⟩:=I.list c;obtain⟨o,g,j,_⟩:=pl.isList;exact Õ kitx_list I.kIn ⟨o,g,j⟩ U e (by grind) fin
  .obtain⟨a,_,pl,_⟩:=I.tuple c;obtain⟨o,g,j,_⟩:=pl;exact Õ kitx_tuple I.kIn ⟨o,g,j⟩ U e (by grind) fin
  .obtain⟨_,_,vs,_,pp⟩:=(c.ok I.hok)
   obtain⟨o,S,T,G,F,_⟩:=pp;exact Õ kitx_dict I.kIn ⟨o,G,F.1⟩ U e (by grind) fin
|_=>exact(Y).elim
theorem MO(x:Gl X "isinstance")(w:X.mg "isinstance" = none)(B:Gl X "list")(s:X.mg "list" = none)(A:Gl X "tuple")(o:X.mg "tuple" = none)(y:SB X g m e fe)(L:f_ [e,.Tuple [.Name "list" q1,.Name "tuple" q2] k q3] X.env=(false,eval e X.env)::f_ [.Tuple [.Name "list" q1,.Name "tuple" q2] k q3] X.env:=by rfl)(Z:f_ [.Tuple [.Name "list" q1,.Name "tuple" q2] k q3] X.env=(false,eval (.Tuple [.Name "list" q1,.Name "tuple" q2] k q3) X.env)::f_ [] X.env:=by rfl)(Y:f_ [.Name "list" q1,.Name "tuple" q2] X.env=(false,eval (.Name "list" q1) X.env)::f_ [.Name "tuple" q2] X.env:=by rfl)(U:f_ [.Name "tuple" q2] X.env=(false,eval (.Name "tuple" q2) X.env)::f_ [] X.env:=by rfl)(c:(backTo pos (f_ [.Tuple [.Name "list" q1,.Name "tuple" q2] k q3] X.env)).any (·.1)=false:=by rfl):SE X g m (.Call (.Name "isinstance" p) [e,.Tuple [.Name "list" q1,.Name "tuple" q2] k q3] [] pos) (f1 fe (mK "list" "tuple")):=by
 have z:=Fk (x1:=k) (pos:=q3) (fZ (yW (v:=.ty "list") B s rfl rfl (by decide) (by decide)) (fZ (yW (v:=.ty "tuple") A o rfl rfl (by decide) (by decide)) iZ U) Y);refine PE.imp (i7 (Rp (T1 := "list") (T2 := "tuple")) x w (by first|exact QbS|rfl) (fZ y (fZ z iZ Z) L) (by decide) (by decide) L c) fun E H Q ⟨r,G,i,q⟩=>⟨r,G,i,bu (bv q) fun d n v C I h j=>?_⟩
 obtain⟨F,a,l⟩:=cJ n;refine⟨by rw[O_];show 2<=16777216;decide,fun p u=>?_⟩;have f:=Grow.new h.ok u (.tup [V.ty "list",V.ty "tuple"]);unfold mK at a;cases b:i9 d with
|none=>rw[b]at a;cases a
|some t=>rw[b]at a;cases a;exact⟨v,p,t,_,rfl,bV,FX f.ok (j.mono f) b,MB X.K d t b,l _ C _ (h.trans f) (.scl (.bl _))⟩
end
end DL
section
namespace L2
open PySem PySem.Spec PyProof.Rows
theorem ff(h:(match L.names.lookup x with|some .local=>true|some .cell=>true|_=>false)=true):je L x:=by
 revert h;unfold je;split <;> intro h
 .exact .inl (by assumption)
 .exact .inr (by assumption)
 .cases h
theorem bC(h:(decide (L.kind=.function) && ! L.isCoroutine && ! L.isGenerator&&decide N.Nodup&&decide (N.take P.length=P)&&(P.all fun x=>match L.names.lookup x with|some .local=>true|some .cell=>true|_=>false)&&L.names.all fun y=>decide (y.2≠.free))=true:=by decide+kernel):FnScope N P L:=by simp only[R_,Q_k,č,Yy]at h;obtain⟨⟨⟨⟨⟨⟨a,b⟩,c⟩,d⟩,e⟩,f⟩,k⟩:=h;exact⟨a,b,c,d,e,fun x U=>ff (f x U),k⟩
end L2
namespace DL
open PySem PySem.Spec PyProof.Rows L2
section
variable{X:Cx}{g:GE}{m mb ms:List Md}{e a b:Expr}{es:List Expr}{f fa fb:FE}{x:Str}{p pos pos':Pos}{ro:Bool}{fl:am->Res (List D)}{k:Nat}{ps:List Str}{F:List D->Res D}
theorem bE(h:SE X g m e f):SB X g m e f:=SE.toB h
theorem iB:SB X g m (.Constant (.int i) j pos) fun _=>.ok (.int i):=bE cO
theorem xB(L:X.A.units+1<Z9)(Y:SB X g m a fa)(U:SB X g m b fb)(hs:xW b:=by intro _ _;rfl):SB X g m (.Subscript a b pos) (f2 fa fb aF):=bE (cM L Y U hs)
theorem bf(i:Nat)(hN:X.N.Nodup)(Z:SE X g m e f)(U:X.N[i]? = some x:=by rfl)(L:je X.env.scope x:=by exact ff rfl)(hs:ï e (some (.Name x pos')) pos.line X.env=pure false:=by rfl)(Y:X.fn x=true\/X.env.scope.names.lookup x=some .local:=by first|exact .inl rfl|exact .inr rfl|assumption):SS X g ro mb m (.Assign [.Name x pos'] e pos) (aY m i f) (m.set i .sh):=Lm i hN U L Z hs Y
theorem bM(i:Nat)(hN:X.N.Nodup)(U:X.N[i]? = some x:=by rfl)(L:je X.env.scope x:=by exact ff rfl)(Y:X.fn x=true\/X.env.scope.names.lookup x=some .local:=by first|exact .inl rfl|exact .inr rfl|assumption):SG X g m (.Name x pos) (aw i) (m.set i .sh):=MG i hN U L Y
theorem aH(c:Callee X.prog X.w X.K X.mg X.base x ps [] k false ms F)(b:jL X g m (e::es) ms fl)(Y:Room k X.A:=by exact Room.mono ‹_› (by decide))(Z:Gl X x:=by rfl)(L:(x==("__debug__" : Str))=false:=by decide)(a:f_ (e::es) X.env=(false,eval e X.env)::f_ es X.env:=by rfl)(U:(backTo pos (f_ es X.env)).any (·.1)=false:=by rfl):SE X g m (.Call (.Name x p) (e::es) [] pos) (bx fl [] F):=wM c Y b (by simp) Z .nil .nil L a U
end
theorem bL{K:W.Frag}{st:Stmt}{N ps:List Str}{k:Nat}{b:Bool}{ms:List Md}{fs:FS}{m':List Md}(A:DefAt K c x st)(S:FnScope N ps (ab st))(L:∀(f:Addr)(Z:Value)(A:T_)(Y:List Env)(s:c_)(H:Hp)(g:GE)(E:XK),Room k (A.deeper (ä x (ab st) s.heap.objs.size f Z))->(A.deeper (ä x (ab st) s.heap.objs.size f Z)).units+1<Z9 ->fS (dF fG P w K c base N x (ab st) f Z A Y s H E).nox g b [] (iy N.length ms) (aC st) fs m')(U:ms.length=ps.length:=by rfl)(j:∀(kV d h:Value)(m:Option Addr)(Z l:Value)(a:List Value),a.length=ps.length->Ó (W.fnOf x x (aX st) (aC st) (ab st) .none kV d h m Z l) ⟨a,[]⟩=pure (ps.zip a):=by intro _ _ _ _ _ _ a i;rcases a with _|⟨_,_|⟨_,_|⟨_,_|⟨_,_|⟨_,_|⟨_,_⟩⟩⟩⟩⟩⟩ <;> first|(exfalso;revert i;simp;done)|kernel_rfl):Callee P w K c base x ps [] (k+1) b ms fun ds=>cX b (fs (bP N.length ds)):=wX A S U j fun f Z A Y s H g E e=>L f Z A Y s H g E e (om e)
end DL
end
namespace DL
open PySem PySem.Spec PyProof.Rows L2
section
variable{X:Cx}{g:GE}{m mb:List Md}{elt iter tg:Expr}{ifs:List Expr}{fi:FI}{q:FQ}{fe:FE}{scope:à}{pos pos' spos:Pos}{ro:Bool}{y:Str}
theorem nZ(h:N'.Nodup):(de X U Z N' L Y C fp).N.Nodup:=h
theorem gT(N':List Str)(cap:List Nat)(hN:X.N.Nodup)(b:fg X g m tg iter fi)(d:∀{U Z Y C fp g'},SE (de X U Z N' scope Y C fp) g' (aL 1 cap m) elt fe)(hq:∀{U Z Y C fp g'},jK (de X U Z N' scope Y C fp) g' (aL 1 cap m) ifs q:=by exact oN)(L:X.calm=true:=by rfl)(a:nq X.env.scope X.N scope N' 1 cap=true:=by kernel_rfl)(c:∀U Z Y C fp g',SG (de X U Z N' scope Y C fp) g' (aL 1 cap m) tg (aw 0) (aL 1 cap m):=by exact fun _ _ _ _ _ _=>bM 0 (nZ (by decide+kernel)))(hs:∀x,Zb iter X.env x=pure x:=by intro _;rfl):SO X g m (.ListComp elt [⟨tg,iter,ifs,0⟩] scope pos) (db 1 cap fi (aw 0) q fe):=wY hN L (pC rfl rfl a) b c (ki (by decide)) (by omega) (by omega) hs
theorem lL(N':List Str)(cap:List Nat)(hN:X.N.Nodup)(b:fg X g m tg iter fi)(d:∀{U Z Y C fp g'},SE (de X U Z N' scope Y C fp) g' (aL 2 cap m) elt fe)(hq:∀{U Z Y C fp g'},jK (de X U Z N' scope Y C fp) g' (aL 2 cap m) ifs q:=by exact oN)(L:X.calm=true:=by rfl)(a:nq X.env.scope X.N scope N' 2 cap=true:=by kernel_rfl)(c:∀U Z Y C fp g',SG (de X U Z N' scope Y C fp) g' (aL 2 cap m) tg (cE (ba (aw 0) (ba (aw 1) cD))) (aL 2 cap m):=by exact fun _ _ _ _ _ _=>hX rfl (cV (bM 0 (nZ (by decide+kernel))) (cV (bM 1 (nZ (by decide+kernel))) hW)))(hs:∀x,Zb iter X.env x=pure x:=by intro _;rfl):SO X g m (.ListComp elt [⟨tg,iter,ifs,0⟩] scope pos) (db 2 cap fi (cE (ba (aw 0) (ba (aw 1) cD))) q fe):=wY hN L (pC rfl rfl a) b c (wI (mi (ki (by decide)) (mi (ki (by decide)) zF))) (by omega) (by omega) hs
theorem j4(i:Nat)(N':List Str)(cap:List Nat)(hN:X.N.Nodup)(e:fg X g m tg iter fi)(h:∀{Z b a C fp g'},SE (de X Z b N' scope a C fp) g' (aL 1 cap m) elt fe)(hq:∀{Z b a C fp g'},jK (de X Z b N' scope a C fp) g' (aL 1 cap m) ifs q:=by exact oN)(L:X.calm=true:=by rfl)(d:X.N[i]? = some y:=by rfl)(U:X.env.scope.names.lookup y=some .local:=by rfl)(c:nq X.env.scope X.N scope N' 1 cap=true:=by kernel_rfl)(f:∀Z b a C fp g',SG (de X Z b N' scope a C fp) g' (aL 1 cap m) tg (aw 0) (aL 1 cap m):=by exact fun _ _ _ _ _ _=>bM 0 (nZ (by decide+kernel)))(Y:ï (.ListComp elt [⟨tg,iter,ifs,0⟩] scope pos) (some (.Name y pos')) spos.line X.env=pure true:=by rfl)(hs:∀x,Zb iter X.env x=pure x:=by intro _;rfl):SS X g ro mb m (.Assign [.Name y pos'] (.ListComp elt [⟨tg,iter,ifs,0⟩] scope pos) spos) (aY m i (db 1 cap fi (aw 0) q fe)) (m.set i .ow):=IE i hN L d U (pC rfl rfl c) e f (ki (by decide)) (by omega) (by omega) Y hs
theorem qp(i:Nat)(N':List Str)(cap:List Nat)(hN:X.N.Nodup)(e:fg X g m tg iter fi)(h:∀{Z b a C fp g'},SE (de X Z b N' scope a C fp) g' (aL 2 cap m) elt fe)(hq:∀{Z b a C fp g'},jK (de X Z b N' scope a C fp) g' (aL 2 cap m) ifs q:=by exact oN)(L:X.calm=true:=by rfl)(d:X.N[i]? = some y:=by rfl)(U:X.env.scope.names.lookup y=some .local:=by rfl)(c:nq X.env.scope X.N scope N' 2 cap=true:=by kernel_rfl)(f:∀Z b a C fp g',SG (de X Z b N' scope a C fp) g' (aL 2 cap m) tg (cE (ba (aw 0) (ba (aw 1) cD))) (aL 2 cap m):=by exact fun _ _ _ _ _ _=>hX rfl (cV (bM 0 (nZ (by decide+kernel))) (cV (bM 1 (nZ (by decide+kernel))) hW)))(Y:ï (.ListComp elt [⟨tg,iter,ifs,0⟩] scope pos) (some (.Name y pos')) spos.line X.env=pure true:=by rfl)(hs:∀x,Zb iter X.env x=pure x:=by intro _;rfl):SS X g ro mb m (.Assign [.Name y pos'] (.ListComp elt [⟨tg,iter,ifs,0⟩] scope pos) spos) (aY m i (db 2 cap fi (cE (ba (aw 0) (ba (aw 1) cD))) q fe)) (m.set i .ow):=IE i hN L d U (pC rfl rfl c) e f (wI (mi (ki (by decide)) (mi (ki (by decide)) zF))) (by omega) (by omega) Y hs
end
end DL
section
namespace Rg
end Rg
end
section
namespace Rg
end Rg
end
section
namespace Rg
end Rg
end
section
namespace Rg
end Rg
end
section
namespace Fq
theorem Ij(a:Int)(b:Nat):è a b=è b (a%(b:Int)):=by
 refine QeK (Int.dvd_gcd (ZF _ _) ?_) (Int.dvd_gcd ?_ (ō _ _))
 .rw[Int.emod_def];exact Int.dvd_sub (ō _ _) (QfC (ZF a b) (Qey _ _))
 .have h:=Int.mul_ediv_add_emod a b;rw[<-h];exact Int.dvd_add (QfC (ō _ _) (Qey _ _)) (by rw[h];exact ZF _ _)
theorem sv(t:Int){b:Nat}(h:0<b):0<è t b:=Qeb fun z=>by simp_all
def low(t:Int)(b:Nat):Int×Nat:=(t/(è t b:Int),b/è t b)
def rH(a b:Int×Nat):Int×Nat:=low (a.1*b.2+b.1*a.2) (a.2*b.2)
def qK(a b:Int×Nat):Prop:=a.1*(b.2:Int)=b.1*(a.2:Int)
theorem GP(t:Int)(h:0<b):è (low t b).1 ((low t b).2:Nat)=1:=by have:=Int.gcd_ediv_gcd_ediv_gcd (sv t h);unfold low;simp_all
theorem jm(t:Int)(h:0<b):0<(low t b).2:=by have L:=ŋ.mp (ZF t b);exact Nat.div_pos (QdX h L) (sv t h)
theorem E6(t:Int)(b:Nat):(low t b).2<=b:=QeV _ _
theorem GQ(t:Int)(b:Nat):(low t b).1.natAbs<=t.natAbs:=Int.natAbs_ediv_le_natAbs _ _
theorem jo(t:Int)(b:Nat):qK (low t b) (t,b):=by
 unfold qK low;have a:=ō t b;have Z:=ZF t b;obtain⟨x,U⟩:=a;obtain⟨y,L⟩:=Z;generalize Y:(è t b:Int)=g at U L;rw[QeL,Y];by_cases z:g=0
 .simp_all
 .rw[U,L,QcC _ z,QcC _ z]
  grind
structure Bd(k:Nat)(a:Int×Nat):Prop where
 pos:0<a.2
 bot:a.2<2^k
 top:a.1.natAbs<2^k
theorem Bd.low(h:0<b)(U:b<2^k)(L:t.natAbs<2^k):Bd k (low t b):=⟨jm t h,Zt (E6 t b) U,Zt (GQ t b) L⟩
theorem Tf(U:a<2^k)(L:b<2^l):a*b<2^(k+l):=by rw[Nat.pow_add];exact QeM U L
theorem sJ(U:Bd k a)(L:Bd l b):0<a.2*b.2/\a.2*b.2<2^(k+l):=⟨Æ U.pos L.pos,Tf U.bot L.bot⟩
def ou(a b:Int×Nat):Bool:=decide (a.1*(b.2:Int)<b.1*(a.2:Int))
end Fq
end
section
namespace Rg
end Rg
namespace Fq
end Fq
end
section
namespace Fq
theorem pO{b d:Nat}(a:0<b)(Z:0<d)(h:t*(d:Int)=u*(b:Int)):low t b=low u d:=by
 have n:(low t b).1*(b)=t*((low t b).2):=jo t b;have m:(low u d).1*(d)=u*((low u d).2):=jo u d;have l:=GP t a;have k:=GP u Z;have o:=jm u Z;generalize low t b=p at *;generalize low u d=q at *;have U:p.1*(q.2)=q.1*(p.2):=by
  have Y:((b*d):Int)≠0:=by have:=Æ a Z;omega
  refine QaO Y ?_
  grind
 have L:=by have:=Q_h Int.natAbs U;rw[Qfh,Qfh,Z_,Z_]at this;exact this
 have f:Nat.Coprime p.2 p.1.natAbs:=by
  have:Ŋ p.1.natAbs p.2=1:=l
  grind
 have c:Nat.Coprime q.2 q.1.natAbs:=by
  have:Ŋ q.1.natAbs q.2=1:=k
  grind
 have j:=f.dvd_of_dvd_mul_left (by rw[L];exact ń _ _);have i:=c.dvd_of_dvd_mul_left (by rw[<-L];exact ń _ _);have e:=QeK j i;have g:=by rw[e]at U;exact QaO (by omega) U
 exact ř g e
theorem mJ(t:Int):low t 1=(t,1):=by
 unfold low;have:è t (1)=1:=by simp
 simp
end Fq
namespace Et
open Rg
def dE:List Nat->Nat
|[]=>0
|x::l=>l.foldl (fun m y=>if y<m then y else m) x
theorem fold_le:∀(l:List Nat)(m:Nat),l.foldl (fun m y=>if y<m then y else m) m<=m/\(∀y∈l,l.foldl (fun m y=>if y<m then y else m) m<=y)/\(l.foldl (fun m y=>if y<m then y else m) m=m\/l.foldl (fun m y=>if y<m then y else m) m∈l)
|[],m=>⟨q_ _,fun _ h=>(nomatch h),.inl rfl⟩
|y::l,m=>by
  rw[ě];obtain⟨Y,U,L⟩:=fold_le l (if y<m then y else m)
  grind
theorem jF(h:y∈l):dE l<=y:=by cases l with
|nil=>cases h
|cons x l=>
  obtain⟨U,L,_⟩:=fold_le l x;rcases s_.mp h with rfl|h
  .exact U
  .exact L y h
theorem fE(h:l≠[]):dE l∈l:=by cases l with
|nil=>exact Q_g rfl h
|cons x l=>
  obtain⟨_,_,L⟩:=fold_le l x;rcases L with L|L
  .show l.foldl _ x∈_;simp_all
  .exact k_ _ L
variable(W:Nat->List Nat)(n:Nat)
variable{W n}
variable{T:List Nat}{a:Nat->Nat}
end Et
end
section
namespace Rg
theorem Ix:∀{l m:List Nat},l.Nodup->(∀x∈l,x∈m)->m.length<=l.length->l.Perm m
|[],m,_,_,Z=>by simp_all
|a::l,m,Y,U,Z=>by
  have L:=ZV.mp Y;have b:=U a m_;refine List.Perm.trans ?_ (List.perm_cons_erase b).symm;refine List.Perm.cons a (Ix L.2 (fun x c=>?_) ?_)
  .grind
  simp_all
end Rg
end
section
namespace Fq
theorem P4(hN:0<N)(a b:Int):rH (low a N) (low b N)=low (a+b) N:=by
 have Z:(low a N).1*(N)=a*((low a N).2):=jo a N;have Y:(low b N).1*(N)=b*((low b N).2):=jo b N;have U:=jm a hN;have L:=jm b hN;refine pO (Æ U L) hN ?_
 grind
theorem PZ(hN:0<N)(U:0<M)(a b:Int):ou (low a N) (low b M)=decide (a*(M:Int)<b*(N:Int)):=by
 have g:(low a N).1*(N)=a*((low a N).2):=jo a N;have f:(low b M).1*(M)=b*((low b M).2):=jo b M;have e:=jm a hN;have d:=jm b U;unfold ou;generalize low a N=p at *;generalize low b M=q at *;have L:(0)<(p.2)*(q.2:Int):=by have:=Æ e d;omega
 have Y:(0)<(N:Int)*(M):=by have:=Æ hN U;omega
 rw[YG,Q_i,Q_i];have c:p.1*(q.2)*((N)*(M))=(a*(M))*((p.2)*(q.2)):=by grind
 have Z:q.1*(p.2)*((N)*(M))=(b*(N))*((p.2)*(q.2)):=by grind
 constructor
 .intro h;have:=QbW h Y;rw[c,Z]at this;exact Qca this (Int.le_of_lt L)
 .intro h;have:=QbW h L;rw[<-c,<-Z]at this;exact Qca this (Int.le_of_lt Y)
theorem vS(hN:0<N):low ((0:Nat):Int) N=(0,1):=by rw[<-mJ 0];exact pO hN (by decide) (by simp)
end Fq
namespace Et
open Rg
variable{W:Nat->List Nat}{n:Nat}
end Et
end
section
namespace Bk
def sm:Nat->(Nat->Nat)->Nat
|0,_=>0
|n+1,f=>sm n f+f n
theorem jw(n:Nat)(f:Nat->Nat):sm (n+1) f=sm n f+f n:=rfl
theorem pA:∀{n:Nat},(∀i,i<n->f i=g i)->sm n f=sm n g
|0,_=>rfl
|n+1,h=>by unfold sm;rw[pA fun i L=>h i (by omega),h n (by omega)]
theorem xJ(f g:Nat->Nat):∀n,sm n (fun i=>f i+g i)=sm n f+sm n g
|0=>rfl
|n+1=>by rw[jw,jw,jw,xJ f g n];omega
theorem Hh:∀n,sm n (fun _=>0)=0
|0=>rfl
|n+1=>by rw[jw,Hh n]
theorem xK(f:Nat->Nat)(k:Nat):∀n,sm n (fun i=>f i*k)=sm n f*k
|0=>by simp[sm]
|n+1=>by unfold sm;rw[xK f k n,ċ]
theorem yH(h:∀i,i<n->f i=0):sm n f=0:=(pA h).trans (Hh n)
theorem wB{x:Nat->Nat}:∀{n:Nat},a<n->sm n (fun i=>if i=a then x i else 0)=x a
|0,h=>by omega
|n+1,h=>by
  unfold sm;by_cases e:n=a
  .subst e;rw[yH fun i L=>Q_f (by omega)];simp
  .rw[wB (by omega)];simp[e]
structure DS(n:Nat)(A:Nat->Nat->Nat)(s:Nat):Prop where
 row:∀i,i<n->sm n (A i)=s
 col:∀j,j<n->sm n (fun i=>A i j)=s
def D3(n:Nat)(Rm:List (Nat×Nat)):Prop:=∀r c:Nat->Bool,((∃i,i<n/\r i=true)\/∃j,j<n/\c j=true)->((∃i,i<n/\r i=false)\/∃j,j<n/\c j=false)->∃i j,i<n/\j<n/\r i≠c j/\(i,j)∉Rm
def dA(d:List Nat)(h:Nat):Nat:=(d[h]?).getD 0
theorem iW(L:h<d.length):d[h]? = some (dA d h):=by unfold dA;simp_all
theorem n9(L:d.Perm (d_ n))(Y:h<n):h<d.length/\dA d h<n:=by
 have U:h<d.length:=by rw[L.length_eq];simpa using Y
 refine⟨U,?_⟩;unfold dA;rw[g_ U];exact n_.mp (L.mem_iff.mp (Zv _))
theorem Lc(L:d.Perm (d_ n))(Z:h<n)(Y:k<n)(e:dA d h=dA d k):h=k:=by have b:=(n9 L Z).1;have a:=(n9 L Y).1;have U:d.Nodup:=L.nodup_iff.mpr Ù;unfold dA at e;rw[g_ b,g_ a]at e;exact(QeD U).mp e
theorem NF(L:d.Perm (d_ n))(Y:x<n):∃h,h<n/\dA d h=x:=by obtain⟨h,U,e⟩:=P_ (L.mem_iff.mpr (n_.mpr Y));refine⟨h,by rw[L.length_eq]at U;simpa using U,?_⟩;unfold dA;simp_all
def mixN(ps:List (Nat×List Nat))(h x:Nat):Nat:=((ps.filter fun q=>decide (dA q.2 h=x)).map (·.1)).sum
structure Pg(n N:Nat)(A0 A:Nat->Nat->Nat)(s:Nat)(ps:List (Nat×List Nat)):Prop where
 ds:DS n A s
 mix:∀i j,i<n->j<n->A0 i j=A i j+mixN ps i j
 sum:s+(ps.map (·.1)).sum=N
 pos:∀q∈ps,0<q.1/\q.2.Perm (d_ n)
 gone:∀q∈ps,∃i,i<n/\A i (dA q.2 i)=0
 nd:(ps.map (·.2)).Nodup
 few:ps.length<=(n-1)*(n-1)+1
 rm:0<s->∃Rm:List (Nat×Nat),Rm.length=ps.length/\Rm.Nodup/\(∀e∈Rm,e.1<n/\e.2<n/\A e.1 e.2=0)/\D3 n Rm
end Bk
end
namespace Law
open PySem PySem.Spec PyProof.Rows L2 DL
abbrev gv(i:Nat):DL.FE:=fun r=>DL.bh r i
abbrev ci(i:Int):DL.FE:=fun _=>.ok (.int i)
abbrev az:List DL.Md:=[.bw,.bw]
abbrev cj:List DL.Md:=[.sh,.sh]
abbrev cF:List DL.Md:=[.bw,.bw,.bw]
abbrev dm:List DL.Md:=[.bw,.bw,.bw,.bw]
abbrev dB:List DL.Md:=[.sh,.sh,.sh]
abbrev eF:List DL.Md:=[.bw,.bw,.sh,.sh]
abbrev eY:List DL.Md:=[.bw,.bw,.ow,.sh,.sh,.sh,.sh]
abbrev fO:List DL.Md:=[.bw,.bw,.bw,.bw,.ow,.sh,.sh,.sh,.sh]
abbrev gu:List DL.Md:=[.bw,.bw,.sh,.sh,.sh,.sh]
abbrev iE:List DL.Md:=[.bw,.bw,.sh,.sh,.ow,.sh,.sh,.sh,.sh,.sh]
abbrev jD:List DL.Md:=[.sh,.bw,.ow,.sh]
abbrev jC:List DL.Md:=[.bw,.bw,.sh,.sh,.ow,.sh,.ow,.sh,.sh,.sh]
abbrev jB:List DL.Md:=[.sh,.sh,.bw,.sh,.sh,.sh,.sh]
abbrev jA:List DL.Md:=[.sh,.sh,.sh,.sh,.sh,.sh,.sh,.sh]
abbrev kH:List DL.Md:=[.bw,.bw,.ow,.sh,.ow,.sh,.sh]
abbrev kG:List DL.Md:=[.bw,.bw,.ow,.sh,.sh,.sh]
abbrev kF:List DL.Md:=[.bw,.bw,.sh,.sh,.sh,.sh,.sh,.sh,.sh,.sh]
abbrev kE:List DL.Md:=[.bw,.bw,.ow,.sh,.sh]
abbrev qB:List DL.Md:=[.bw,.bw,.bw,.sh,.sh,.bw,.sh,.sh,.bw,.sh,.sh]
abbrev qA:List DL.Md:=[.bw,.sh,.sh,.sh,.sh,.sh,.sh,.sh,.ow,.sh]
abbrev qz:List DL.Md:=[.bw,.bw,.bw,.sh,.sh,.sh,.sh,.sh,.sh,.sh,.sh]
abbrev qy:List DL.Md:=[.bw,.bw,.bw,.sh,.sh,.ow,.sh,.sh,.sh,.sh,.sh]
theorem Ex{U:Type}(L:List U)(h:L.length=1):∃Y,L=[Y]:=by match L,h with
|[_],_=>exact⟨_,rfl⟩
theorem Ey{U:Type}(L:List U)(h:L.length=2):∃Z Y,L=[Z,Y]:=by match L,h with
|[_,_],_=>exact⟨_,_,rfl⟩
theorem q8{U:Type}(L:List U)(h:L.length=3):∃a Z Y,L=[a,Z,Y]:=by match L,h with
|[_,_,_],_=>exact⟨_,_,_,rfl⟩
def top(i:Nat):Stmt:=Qcf.main.body.getD i (.Pass ⟨0,0,0,0⟩)
structure Txt(K:W.Frag)(mg:Str->Option Value):Prop where
 b_len:mg "len" = none
 b_range:mg "range" = none
 b_tuple:mg "tuple" = none
 b_abs:mg "abs" = none
 b_sum:mg "sum" = none
 b_max:mg "max" = none
 b_list:mg "list" = none
 b_reversed:mg "reversed" = none
 b_min:mg "min" = none
 b_zip:mg "zip" = none
 b_set:mg "set" = none
 b_sorted:mg "sorted" = none
 b_isinstance:mg "isinstance" = none
 b_bool:mg "bool" = none
 b_int:mg "int" = none
 b_all:mg "all" = none
 b_any:mg "any" = none
 b_enumerate:mg "enumerate" = none
 k_NOUGHT:∃a,mg "NOUGHT" = some (.ref a)/\KC K a (.tup [.int 0,.int 1])
 k_ONE:∃a,mg "ONE" = some (.ref a)/\KC K a (.tup [.int 1,.int 1])
def nz:Str->Bool:=fun nm=>(["Rising"]:List Str).contains nm
def oK:Str->Bool:=fun nm=>(["Handing"]:List Str).contains nm
def oJ:Str->Bool:=fun nm=>(["Handing"]:List Str).contains nm
def oV:Str->Bool:=fun nm=>(["Parted"]:List Str).contains nm
def lV:Str->Option Bool:=fun nm=>if (["Paper","Rising","Handing","Parted"]:List Str).contains nm=true then some true else if ([]:List Str).contains nm=true then some false else none
def o6:Str->Option Bool:=fun nm=>if (["Handing"]:List Str).contains nm=true then some true else if (["Paper","Rising","Parted"]:List Str).contains nm=true then some false else none
abbrev Ar:Stmt:=top 48
abbrev Jx:List Str:=["_law_script","_law_k","_law_cell_here","_law_stirred"]
abbrev jY:List Str:=["_law_script","_law_k"]
theorem tY:FnScope Jx jY (ab Ar):=bC
def tJ:FS:=(al (aY eF 2 (ci 0)) (al (dQ eF (bj (f2 (gv 1) (fC (ak (gv 0) ag) lenD) ltI)) (al (aY eF 2 (f2 (f2 (gv 0) (gv 1) aF) (f2 (ci 10) (ci 60) gS) bn)) be) be) (al (dQ eF (fR (bj (f2 (fC (ak (gv 0) ag) lenD) (ci 0) jd)) (bj (f2 (f2 (f2 (gv 0) (ci 0) aF) (ci 2) bn) (ci 0) eqD))) (al (bZ eF (gv 2)) be) be) (al (aY eF 3 (f2 (f2 (f2 (f2 (f2 (f2 (f2 (gv 2) (f2 (f2 (ci 7) (gv 1) bK) (gv 1) bK) addA) (f2 (ci 13) (gv 1) bK) addA) (ci 5) addA) (ci 48271) bK) (ci 2147483647) bn) (ci 69621) bK) (ci 1000000007) bn)) (al (bZ eF (f2 (f2 (f2 (f2 (f2 (gv 3) (ci 1) addA) (ci 40692) bK) (ci 2147483629) bn) (ci 39373) bK) (ci 999999937) bn)) be)))))
def gH:List D->Res D:=fun ds=>cX false (tJ (bP Jx.length ds))
variable{P:C_}{w:S_}{K:W.Frag}{mg:Str->Option Value}{base:Heap}
theorem kW(T:Txt K mg)(A:DefAt K mg "_law_cell" Ar):Callee P w K mg base "_law_cell" jY [] 1 false az gH:=
 bL (m':=eF) A tY fun f a A Y s H g E Z U=>have L:=Z.units;(ai (bf 2 tY.nd cO)
   (ai (aG (eD (aa 1) (bE (bT (by rfl) T.b_len (ax (aa 0) ay)))) (ai (bf 2 tY.nd (bz (xB U (aa 0) (aa 1)) (bE (EC iB iB))))
   aq)
   aq)
   (ai (aG (SW.toQ (vM (jz (bE (bT (by rfl) T.b_len (ax (aa 0) ay))) iB) (wT (q_eq L (bE (bz (xB U (aa 0) iB) iB)) iB)))) (ai (bc (v_ 2))
   aq)
   aq)
   (ai (bf 3 tY.nd (bz (bE (dY (bE (bz (bE (dY (bE (bX (bE (bX (bE (bX (aa 2) (bE (dY (bE (dY iB (aa 1))) (aa 1))))) (bE (dY iB (aa 1))))) iB)) iB)) iB)) iB)) iB))
   (ai (bc (bz (bE (dY (bE (bz (bE (dY (bE (bX (aa 3) iB)) iB)) iB)) iB)) iB))
   aq)))))
abbrev zZ:Stmt:=top 49
abbrev Jh:List Str:=["_law_cell_here","_law_m","_law_row_here","_law_thing"]
abbrev nF:List Str:=["_law_cell_here","_law_m"]
theorem tT:FnScope Jh nF (ab zZ):=bC
abbrev Ka:FS:=(al (dq "list" jD 2 (ak (f2 (gv 0) (f2 (gv 3) (ci 1) addA) bn) (ak (gv 3) ag)) insD) (al (aY jD 0 (f2 (gv 0) (f2 (gv 3) (ci 1) addA) fH)) be))
def Ay:FS:=(al (aY [.sh,.bw,.sh,.sh] 2 (jE ag)) (al (iU jD (cZ cR (ak (gv 1) ag)) (aw 3) Ka) (al (bZ jD (fC (ak (gv 2) ag) tupD)) be)))
def jX:List D->Res D:=fun ds=>cX false (Ay (bP Jh.length ds))
theorem qS(T:Txt K mg)(A:DefAt K mg "_law_row" zZ):Callee P w K mg base "_law_row" nF [] 1 false [.sh,.bw] jX:=
 bL (m':=jD) A tT fun f Y A L s H g E Z U=>(ai (gF 2 tT.nd (by rfl) (ff rfl) (dy aP))
   (ai (fI E_ rfl (eR (by rfl) T.b_range (ax (aa 1) ay)) (bM 3 tT.nd) (ai (iV 2 rfl J_ Qcy PySem.F.type_list_insert R1 Mo (by rfl) (by first|exact Or.inl rfl|grind|grind) (au (bz (aa 0) (bE (bX (aa 3) iB))) (au (v_ 3) aP)))
   (ai (bf 0 tT.nd (bY (aa 0) (bE (bX (aa 3) iB))))
   aq)))
   (ai (bc (dZ (by rfl) T.b_tuple (ax (aa 2) ay)))
   aq)))
abbrev Bo:Stmt:=top 50
abbrev BG:List Str:=["_law_script","_law_at","_law_n","_law_m"]
abbrev pU:List Str:=["_law_script","_law_at","_law_n","_law_m"]
theorem Kx:FnScope BG pU (ab Bo):=bC
def aK(b:Bool)(N:List Str)(B:FS):List D->Res D:=fun ds=>cX b (B (bP N.length ds))
theorem dz(h:B (bP n ds)=.rt d)(L:n=N.length:=by rfl):aK b N B ds=.ok d:=by subst L;show cX b (B (bP N.length ds))=_;rw[h];cases b <;> rfl
def AZ:{B // ∀{P w K Y base} (T:Txt K Y) (A:DefAt K Y "_law_wishes" Bo) (L:Callee P w K Y base "_law_cell" jY [] 1 false az gH) (U:Callee P w K Y base "_law_row" nF [] 1 false [.sh,.bw] jX),Callee P w K Y base "_law_wishes" pU [] 2 false dm (aK false BG B)}:=⟨_,fun T A L U=>
 bL (m':=dm) A Kx fun f b A Z s H g E c a=>(ai (bc (dZ (by rfl) T.b_tuple (ax (SO.toB (gT ["_law_hand","_law_m","_law_script","_law_at"] [3,0,1] Kx.nd (gj.toC (eR (by rfl) T.b_range (ax (aa 2) ay))) (aH U (aR (aH L (af (aa 2) (af (bE (bX (aa 3) (aa 0))) aB))) (af (aa 1) aB))))) ay)))
   aq)⟩
def J5:=AZ.1
def tV:=aK false BG J5
abbrev Bn:Stmt:=top 52
abbrev BF:List Str:=["_law_one","_law_other","_law_rest"]
abbrev BK:List Str:=["_law_one","_law_other"]
theorem uA:FnScope BF BK (ab Bn):=bC
abbrev t5:FQ:=(bj (f2 (gv 1) (ci 0) neD))
abbrev t3:FS:=(al (aY dB 2 (f2 (gv 0) (gv 1) bn)) (al (aY dB 0 (gv 1)) (al (aY dB 1 (gv 2)) be)))
def Ji:{B // ∀{P w K Y base} (T:Txt K Y) (A:DefAt K Y "_law_common" Bn),Callee P w K Y base "_law_common" BK [] 1 false cj (aK false BF B)}:=⟨_,fun T A=>
 bL A uA fun f b A U s H g E a Z=>have L:=a.units;(ai (so 1000 E_ (fN L (aa 1) iB) (ai (bf 2 uA.nd (bz (aa 0) (aa 1)))
   (ai (bf 0 uA.nd (v_ 1))
   (ai (bf 1 uA.nd (v_ 2))
   aq))))
   (ai (bc (ES (by rfl) T.b_abs (ax (aa 0) ay)))
   aq))⟩
def Uy:=Ji.1
def J7:=aK false BF Uy
abbrev zY:Stmt:=top 53
abbrev Az:List Str:=["_law_top","_law_bottom","_law_by"]
abbrev nE:List Str:=["_law_top","_law_bottom"]
theorem JX:FnScope Az nE (ab zY):=bC
def HC:{B // ∀{P w K U base} (T:Txt K U) (A:DefAt K U "_law_low" zY) (L:Callee P w K U base "_law_common" BK [] 1 false cj J7),Callee P w K U base "_law_low" nE [] 2 false cj (aK false Az B)}:=⟨_,fun T A L=>
 bL A JX fun f a A Y s H g E b Z=>(ai (bf 2 JX.nd (aH L (aR (v_ 0) (aR (v_ 1) aB))))
   (ai (bc (bD (au (sn (aa 0) (aa 2)) (au (sn (aa 1) (aa 2)) aP))))
   aq))⟩
def Se:=HC.1
def lC:=aK false Az Se
abbrev AT:Stmt:=top 56
abbrev Bg:List Str:=["_law_script","_law_at","_law_n","_law_many","_law_weights","_law_whole","_law_found","_law_k"]
abbrev A1:List Str:=["_law_script","_law_at","_law_n","_law_many"]
theorem pW:FnScope Bg A1 (ab AT):=bC
abbrev UO:FS:=(al (dq "list" [.bw,.bw,.bw,.bw,.ow,.sh,.ow,.sh] 6 (ak (ie (ak (bx (ak (f2 (gv 4) (gv 7) aF) (ak (gv 5) ag)) [] lC) (ak (bx (ak (bx (ak (gv 0) (ak (f2 (f2 (gv 1) (f2 (ci 2) (gv 7) bK) addA) (ci 1) addA) ag)) [] gH) (ak (gv 2) ag)) [] jX) ag))) ag) appD) be)
def Aq:{B // ∀{P w K Z base} (T:Txt K Z) (A:DefAt K Z "_law_parts" AT) (L:Callee P w K Z base "_law_cell" jY [] 1 false az gH) (U:Callee P w K Z base "_law_row" nF [] 1 false [.sh,.bw] jX) (Y:Callee P w K Z base "_law_low" nE [] 2 false cj lC),Callee P w K Z base "_law_parts" A1 [] 3 false dm (aK false Bg B)}:=⟨_,fun T A L U Y=>
 bL (m':=[.bw,.bw,.bw,.bw,.ow,.sh,.sh,.sh]) A pW fun f c A a s H g E d b=>(ai (j4 4 ["_law_k","_law_script","_law_at"] [0,1] pW.nd (gj.toC (eR (by rfl) T.b_range (ax (aa 3) ay))) (bX iB (bE (bz (bE (aH L (af (aa 1) (af (bE (bX (aa 2) (bE (dY iB (aa 0))))) aB)))) iB))))
   (ai (bf 5 pW.nd (EE rfl (by rfl) T.b_sum (ax (aa 4) ay)))
   (ai (gF 6 pW.nd (by rfl) (ff rfl) (dy aP))
   (ai (fI E_ rfl (eR (by rfl) T.b_range (ax (aa 3) ay)) (bM 7 pW.nd) (ai (iV 6 rfl J_ YI YJ jr jS (by rfl) (gJ rfl) (au (bD (au (aH Y (aR (cM b (aa 4) (aa 7)) (aR (v_ 5) aB))) (au (aH U (aR (aH L (af (aa 0) (af (bE (bX (bE (bX (aa 1) (bE (dY iB (aa 7))))) iB)) aB))) (af (aa 2) aB))) aP))) aP))
   aq))
   (ai (lg 6 rfl (bc (v_ 6)))
   aq)))))⟩
def Kf:=Aq.1
def Kh:=aK false Bg Kf
abbrev At:Stmt:=top 54
abbrev AD:List Str:=["_law_a","_law_b"]
abbrev tM:List Str:=["_law_a","_law_b"]
theorem Uc:FnScope AD tM (ab At):=bC
def HL:{B // ∀{P w K Y base} (T:Txt K Y) (A:DefAt K Y "_law_plus" At) (L:Callee P w K Y base "_law_low" nE [] 2 false cj lC),Callee P w K Y base "_law_plus" tM [] 3 false az (aK false AD B)}:=⟨_,fun T A L=>
 bL (m':=az) A Uc fun f a A Z s H g E b U=>(ai (bc (aH L (aR (bX (bE (jU (xB U (aa 0) iB) (xB U (aa 1) iB))) (bE (jU (xB U (aa 1) iB) (xB U (aa 0) iB)))) (aR (jU (xB U (aa 0) iB) (xB U (aa 1) iB)) aB))))
   aq)⟩
def Tv:=HL.1
def mo:=aK false AD Tv
abbrev AS:Stmt:=top 57
abbrev Bf:List Str:=["_law_parts_here","_law_n","_law_rows","_law_hand","_law_row_here","_law_part","_law_got"]
abbrev nS:List Str:=["_law_parts_here","_law_n"]
theorem nO:FnScope Bf nS (ab AS):=bC
abbrev Kl:FS:=(al (putF kH 4 (f2 (gv 6) (gv 3) aF) (bx (ak (f2 (gv 4) (f2 (gv 6) (gv 3) aF) aF) (ak (gv 5) ag)) [] mo)) be)
abbrev UN:FS:=(al (aY eY 4 (db 1 [] (cZ cR (ak (gv 1) ag)) (aw 0) (fun _=>Res.ok true) (ie (ak (ci 0) (ak (ci 1) ag))))) (al (iU kH (aV bQ (gv 0)) (cE (ba (aw 5) (ba (aw 6) cD))) Kl) (al (dq "list" kH 2 (ak (fC (ak (gv 4) ag) tupD) ag) appD) be)))
def Ap:{B // ∀{P w K Y base} (T:Txt K Y) (A:DefAt K Y "_law_mixed" AS) (L:Callee P w K Y base "_law_plus" tM [] 3 false az mo),Callee P w K Y base "_law_mixed" nS [] 4 false az (aK false Bf B)}:=⟨_,fun T A L=>
 bL (m':=eY) A nO fun f a A Z s H g E b U=>(ai (gF 2 nO.nd (by rfl) (ff rfl) (dy aP))
   (ai (fI E_ rfl (eR (by rfl) T.b_range (ax (aa 1) ay)) (bM 3 nO.nd) (Jl (m':=kH) 4 (ai (j4 4 ["_law_thing"] [] nO.nd (gj.toC (eR (by rfl) T.b_range (ax (aa 1) ay))) (bD (au cO (au cO aP))))
   (ai (F7 E_ rfl (MM (KW 0)) (hX rfl (cV (bM 5 nO.nd) (cV (bM 6 nO.nd) hW))) (ai (jh 4 U rfl (by rfl) (by first|exact Or.inl rfl|grind|grind) (xB U (aa 6) (aa 3)) (aH L (af (xB U (aa 4) (xB U (aa 6) (aa 3))) (af (aa 5) aB))))
   aq))
   (ai (iV 2 rfl J_ YI YJ jr jS (by rfl) (by first|exact Or.inl rfl|grind|grind) (au (dZ (by rfl) T.b_tuple (ax (aa 4) ay)) aP))
   aq))) rfl))
   (ai (bc (dZ (by rfl) T.b_tuple (ax (aa 2) ay)))
   aq)))⟩
def Ke:=Ap.1
def nH:=aK false Bf Ke
abbrev AU:Stmt:=top 59
abbrev Bh:List Str:=["_law_wishes_here","_law_table","_law_found","_law_thing","_law_hand","_law_row_here"]
abbrev tW:List Str:=["_law_wishes_here","_law_table"]
theorem nQ:FnScope Bh tW (ab AU):=bC
abbrev BA:FS:=(al (dQ kG (bj (f2 (f2 (f2 (f2 (gv 1) (gv 4) aF) (gv 3) aF) (ci 0) aF) (ci 0) jd)) (al (aY kG 5 (f2 (gv 0) (gv 4) aF)) (al (dq "list" kG 2 (ak (db 1 [4,3] (aV bQ (j6 (gv 5) (fun _=>Res.ok none) (li (fM "tuple" (gv 5) (ak (gv 3) ag) km)))) (aw 0) (fun _=>Res.ok true) (ie (ak (gv 1) (ak (gv 2) (ak (gv 0) ag))))) ag) extD) be)) be) be)
abbrev UP:FS:=(al (iU kG (cZ cR (ak (fC (ak (gv 0) ag) lenD) ag)) (aw 4) BA) be)
def sU:{B // ∀{P w K Y base} (T:Txt K Y) (A:DefAt K Y "_law_steps" AU),Callee P w K Y base "_law_steps" tW [] 1 false az (aK false Bh B)}:=⟨_,fun T A=>
 bL (m':=gu) A nQ fun f Z A U s H g E a L=>(ai (gF 2 nQ.nd (by rfl) (ff rfl) (dy aP))
   (ai (fI E_ rfl (eR (by rfl) T.b_range (ax (bE (bT (by rfl) T.b_len (ax (aa 0) ay))) ay)) (bM 3 nQ.nd) (ai (fI E_ rfl (eR (by rfl) T.b_range (ax (bE (bT (by rfl) T.b_len (ax (aa 0) ay))) ay)) (bM 4 nQ.nd) (ai (aG (jz (xB L (xB L (xB L (aa 1) (aa 4)) (aa 3)) iB) iB) (ai (bf 5 nQ.nd (cM L (aa 0) (aa 4)))
   (ai (iV 2 rfl J_ PySem.F.slot_list_extend PySem.F.type_list_extend Te Li (by rfl) (by first|exact Or.inl rfl|grind|grind) (au (SO.toE (gT ["_law_other","_law_hand","_law_thing"] [4,3] nQ.nd (cW (bE (fJ (aa 5) d9 (eu (bE (iA ZP Zo ZQ pF pD (aa 5) (ax (aa 3) ay))))))) (bD (au (v_ 1) (au (v_ 2) (au (v_ 0) aP)))))) aP))
   aq))
   aq)
   aq))
   aq))
   (ai (lg 2 rfl (bc (v_ 2)))
   aq)))⟩
def Kg:=sU.1
def nI:=aK false Bh Kg
abbrev CC:Stmt:=top 60
abbrev CW:List Str:=["_law_wishes_here","_law_table","_law_numbers","_law_again","_law_hand","_law_thing","_law_other"]
abbrev CY:List Str:=["_law_wishes_here","_law_table"]
theorem lF:FnScope CW CY (ab CC):=bC
abbrev KP:FQ:=(fR (cL (gv 3)) (bj (f2 (fC (ak (gv 2) ag) vT) (fC (ak (gv 0) ag) lenD) ii)))
abbrev KO:FS:=(al (dQ eY (bj (f2 (f2 (gv 2) (gv 6) aF) (f2 (gv 2) (gv 5) aF) ii)) (al (putF eY 2 (gv 6) (f2 (f2 (gv 2) (gv 5) aF) (ci 1) addA)) (al (aY eY 3 (fun _=>Res.ok (D.bl true))) be)) be) be)
abbrev Vb:FS:=(al (aY eY 3 (fun _=>Res.ok (D.bl false))) (al (iU eY (aV bQ (bx (ak (gv 0) (ak (gv 1) ag)) [] nI)) (cE (ba (aw 4) (ba (aw 5) (ba (aw 6) cD)))) KO) be))
def Ky:{B // ∀{P w K Y base} (T:Txt K Y) (A:DefAt K Y "_law_least_heights" CC) (L:Callee P w K Y base "_law_steps" tW [] 1 false az nI),Callee P w K Y base "_law_least_heights" CY [] 2 true az (aK true CW B)}:=⟨_,fun T A L=>
 bL (m':=eY) A lF fun f a A Z s H g E b U=>(ai (j4 2 ["_law_thing"] [] lF.nd (cW (aa 0)) cO)
   (ai (bf 3 lF.nd bR)
   (ai (so 64 E_ (SW.toQ (vM (dc (aa 3)) (wT (mG (bE (MP rfl (by rfl) T.b_max (ax (aa 2) ay))) (bE (bT (by rfl) T.b_len (ax (aa 0) ay))))))) (ai (bf 3 lF.nd bR)
   (ai (fI E_ rfl (qY (aH L (af (aa 0) (af (aa 1) aB)))) (hX rfl (cV (bM 4 lF.nd) (cV (bM 5 lF.nd) (cV (bM 6 lF.nd) hW)))) (ai (aG (mG (xB U (aa 2) (aa 6)) (xB U (aa 2) (aa 5))) (ai (jh 2 U rfl (by rfl) (by first|exact Or.inl rfl|grind|grind) (aa 6) (bX (xB U (aa 2) (aa 5)) iB))
   (ai (bf 3 lF.nd bR)
   aq))
   aq)
   aq))
   aq)))
   (ai (aG (dc (aa 3)) (ai Ic
   aq)
   aq)
   (ai (MV 2 rfl (by rfl) (by first|exact Or.inl rfl|grind|grind))
   aq)))))⟩
def KQ:=Ky.1
def CV:=aK true CW KQ
abbrev CO:Stmt:=top 64
abbrev C0:List Str:=["_law_script","_law_wishes_here","_law_table","_law_cell_here","_law_numbers","_law_at"]
abbrev C1:List Str:=["_law_script","_law_wishes_here","_law_table"]
theorem mv:FnScope C0 C1 (ab CO):=bC
def BY:{B // ∀{P w K Z base} (T:Txt K Z) (A:DefAt K Z "_law_numbers_made" CO) (U:Callee P w K Z base "_law_cell" jY [] 1 false az gH) (L:Callee P w K Z base "_law_least_heights" CY [] 2 true az CV),Callee P w K Z base "_law_numbers_made" C1 [] 3 false cF (aK false C0 B)}:=⟨_,fun T A U L=>
 bL (m':=[.bw,.bw,.bw,.sh,.sh,.sh]) A mv fun f d A b s H g E c a=>have Y:=c.units;(ai (bf 3 mv.nd (aH U (af (aa 0) (af iB aB))))
   (Hl 4 mv.nd (by rfl) (ff rfl) (Hx (dds:=[]) L (c.mono (by decide)) (af (aa 1) (af (aa 2) aB))) (aG (SW.toQ (bF (kD (aa 4) (bE mX)) (fj (q_eq Y (bE (bz (aa 3) iB)) iB)))) (ai (j4 4 ["_law_k","_law_cell_here"] [3] mv.nd (gj.toC (eR (by rfl) T.b_range (ax (bE (bT (by rfl) T.b_len (ax (aa 1) ay))) ay))) (bz (bE (bY (aa 1) (bE (bX iB (bE (dY iB (aa 0))))))) iB))
   aq) (Hk rfl)) (aG (SW.toQ (bF (kD (aa 4) (bE mX)) (fj (q_eq Y (bE (bz (aa 3) iB)) iB)))) (ai (j4 4 ["_law_k","_law_cell_here"] [3] mv.nd (gj.toC (eR (by rfl) T.b_range (ax (bE (bT (by rfl) T.b_len (ax (aa 1) ay))) ay))) (bz (bE (bY (aa 1) (bE (bX iB (bE (dY iB (aa 0))))))) iB))
   aq)
   aq)
   (ai (bf 5 mv.nd (bz (bE (bY (aa 3) iB)) (bE (bT (by rfl) T.b_len (ax (aa 4) ay)))))
   (ai (aG (q_eq Y (bE (bz (bE (bY (aa 3) iB)) iB)) iB) (ai (jh 4 a rfl (by rfl) (gJ rfl) (aa 5) (gp (bE (bX (xB a (aa 4) (aa 5)) (bE (bz (bE (bY (aa 3) iB)) iB)))) iB))
   aq)
   aq)
   (ai (aG (q_eq Y (bE (bz (bE (bY (aa 3) iB)) iB)) iB) (ai (iV 4 rfl J_ YI YJ jr jS (by rfl) (gJ rfl) (au (bz (bE (bY (aa 3) iB)) iB) aP))
   aq)
   aq)
   (ai (aG (q_eq Y (bE (bz (bE (bY (aa 3) iB)) iB)) iB) (ai (F9 4 rfl J_ Qdn Qdo HP HU (by rfl) (gJ rfl) (au (v_ 5) aP))
   aq)
   aq)
   (ai (aG (q_eq Y (bE (bz (bE (bY (aa 3) iB)) iB)) iB) (ai (j4 4 ["_law_one","_law_cell_here"] [3] mv.nd (cW (aa 4)) (bX (aa 0) (bE (bz (bE (bY (aa 1) iB)) (bE (EC iB iB))))))
   aq)
   aq)
   (ai (lg 4 rfl (bc (v_ 4)))
   aq))))))))⟩
def CZ:=BY.1
def KJ:=aK false C0 CZ
abbrev B1:Stmt:=top 61
abbrev KI:List Str:=["_law_wishes_here","_law_table","_law_first","_law_steps_here","_law_path","_law_thing","_law_ways","_law_hand","_law_one","_law_other"]
abbrev Cy:List Str:=["_law_wishes_here","_law_table","_law_first"]
theorem js:FnScope KI Cy (ab B1):=bC
abbrev uI:FQ:=(bj (f2 (gv 5) (db 2 [] (aV bQ (gv 4)) (cE (ba (aw 0) (ba (aw 1) cD))) (fun _=>Res.ok true) (gv 1)) iH))
abbrev uH:FS:=(al (aY iE 6 (db 1 [5] (aV bQ (gv 3)) (aw 0) (bj (f2 (f2 (gv 0) (ci 1) aF) (gv 1) eqD)) (gv 0))) (al (dQ jC (bj (f2 (gv 6) (jE ag) eqD)) (al (fun _=>Out.rt D.non) be) be) (al (iP jC (f2 (gv 6) (f2 (f2 (gv 2) (ci 7) bK) (fC (ak (gv 6) ag) lenD) bn) aF) (cE (ba (aw 7) (ba (aw 8) (ba (aw 9) cD))))) (al (dq "list" jC 4 (ak (ie (ak (gv 7) (ak (gv 8) ag))) ag) appD) (al (aY jC 5 (gv 9)) be)))))
def CN:FS:=(al (aY kF 3 (bx (ak (gv 0) (ak (gv 1) ag)) [] nI)) (al (aY kF 4 (jE ag)) (al (aY iE 5 (gv 2)) (al (fK iE uI uH 64) (al (bZ iE (fun r=>(j6 (gv 4) (li (fM "list" (db 2 [] (aV bQ (gv 4)) (cE (ba (aw 0) (ba (aw 1) cD))) (fun _=>Res.ok true) (gv 1)) (ak (gv 5) ag) zu)) (fun _=>Res.ok none) r).bind fun d=>match d with|.lst ds=>.ok (.lst ds)|_=>.stuck)) be)))))
def nU:List D->Res D:=fun ds=>cX true (CN (bP KI.length ds))
theorem TW(T:Txt K mg)(A:DefAt K mg "_law_ring_walked" B1)(L:Callee P w K mg base "_law_steps" tW [] 1 false az nI):Callee P w K mg base "_law_ring_walked" Cy [] 2 true [.bw,.bw,.sh] nU:=
 bL (m':=iE) A js fun f b A Z s H g E a Y=>have U:=a.units;(ai (bf 3 js.nd (aH L (af (aa 0) (af (aa 1) aB))))
   (ai (gF 4 js.nd (by rfl) (ff rfl) (dy aP))
   (ai (bf 5 js.nd (v_ 2))
   (ai (so 64 E_ (LW Y (aa 5) (SO.toB (lL ["_law_hand","_law_one"] [] js.nd (cW (aa 4)) (v_ 1)))) (Jl (m':=jC) 6 (ai (j4 6 ["_law_step","_law_thing"] [5] js.nd (cW (aa 3)) (v_ 0) (hq:=(oO (q_eq U (xB Y (aa 0) iB) (aa 1)))))
   (ai (aG (q_eq U (aa 6) (SO.toB (dy aP))) (ai Ic
   aq)
   aq)
   (ai (rq (cM Y (aa 6) (bE (bz (bE (dY (aa 2) iB)) (bE (bT (by rfl) T.b_len (ax (aa 6) ay)))))) (hX rfl (cV (bM 7 js.nd) (cV (bM 8 js.nd) (cV (bM 9 js.nd) hW)))))
   (ai (iV 4 rfl J_ YI YJ jr jS (by rfl) (gJ rfl) (au (bD (au (v_ 7) (au (v_ 8) aP))) aP))
   (ai (bf 5 js.nd (v_ 9))
   aq))))) rfl))
   (ai (MU (Vz (aa 4) (eu (bE (iA J_ QcJ PySem.F.type_list_index RZ Rf (SO.toB (lL ["_law_hand","_law_one"] [] js.nd (cW (aa 4)) (v_ 1))) (ax (aa 5) ay)))) d9))
   aq)))))
abbrev As:Stmt:=top 55
abbrev AY:List Str:=["_law_a","_law_b"]
abbrev tK:List Str:=["_law_a","_law_b"]
theorem Ub:FnScope AY tK (ab As):=bC
def xY:{B // ∀{P w K Y base} (T:Txt K Y) (A:DefAt K Y "_law_less" As),Callee P w K Y base "_law_less" tK [] 1 false az (aK false AY B)}:=⟨_,fun T A=>
 bL A Ub fun f Z A U s H g E a L=>(ai (bc (mC (bE (jU (xB L (aa 0) iB) (xB L (aa 1) iB))) (bE (jU (xB L (aa 1) iB) (xB L (aa 0) iB)))))
   aq)⟩
def Tu:=xY.1
def mn:=aK false AY Tu
abbrev Bz:Stmt:=top 65
abbrev CS:List Str:=["_law_script","_law_wishes_here","_law_table","_law_cell_here","_law_n","_law_ring","_law_hands","_law_part","_law_shares","_law_share","_law_at"]
abbrev CT:List Str:=["_law_script","_law_wishes_here","_law_table"]
theorem f8:FnScope CS CT (ab Bz):=bC
abbrev U6:FS:=(al (dQ qB (cL (bx (ak (gv 9) (ak (gv 7) ag)) [] mn)) (al (aY qB 7 (gv 9)) be) be) be)
def BP:{B // ∀{P w K c base} (T:Txt K c) (A:DefAt K c "_law_ring_made" Bz) (a:Callee P w K c base "_law_cell" jY [] 1 false az gH) (Y:Callee P w K c base "_law_ring_walked" Cy [] 2 true [.bw,.bw,.sh] nU) (U:Callee P w K c base "_law_row" nF [] 1 false [.sh,.bw] jX) (Z:Callee P w K c base "_law_less" tK [] 1 false az mn),Callee P w K c base "_law_ring_made" CT [] 3 false cF (aK false CS B)}:=⟨_,fun T A a Y U Z=>
 bL (m':=[.bw,.bw,.bw,.sh,.sh,.sh,.sh,.sh,.ow,.sh,.sh]) A f8 fun f h A d s H g E e L=>have b:=e.units;(ai (bf 3 f8.nd (aH a (af (aa 0) (af iB aB))))
   (ai (bf 4 f8.nd (bT (by rfl) T.b_len (ax (aa 1) ay)))
   (Hl 5 f8.nd (by rfl) (ff rfl) (Hx (dds:=[]) Y (e.mono (by decide)) (af (aa 1) (af (aa 2) (aR (bz (aa 3) (aa 4)) aB)))) (aG (SW.toQ (bF (kD (aa 5) (bE mX)) (fj (q_eq b (bE (bz (bE (bY (aa 3) iB)) iB)) iB)))) (ai (bf 6 f8.nd (aH U (aR (bY (aa 3) iB) (af (aa 4) aB))))
   (ai (j4 5 ["_law_k","_law_hands","_law_n","_law_cell_here"] [6,4,3] f8.nd (gj.toC (eR (by rfl) T.b_range (ax (bE (bX iB (bE (bz (bE (bY (aa 3) iB)) (aa 4))))) ay))) (bD (au (cM L (aa 1) (aa 0)) (au (cM L (bE (aH U (aR (bY (aa 3) iB) (af (aa 2) aB)))) (aa 0)) aP))))
   aq)) (Hk rfl)) (aG (SW.toQ (bF (kD (aa 5) (bE mX)) (fj (q_eq b (bE (bz (bE (bY (aa 3) iB)) iB)) iB)))) (ai (bf 6 f8.nd (aH U (aR (bY (aa 3) iB) (af (aa 4) aB))))
   (ai (j4 5 ["_law_k","_law_hands","_law_n","_law_cell_here"] [6,4,3] f8.nd (gj.toC (eR (by rfl) T.b_range (ax (bE (bX iB (bE (bz (bE (bY (aa 3) iB)) (aa 4))))) ay))) (bD (au (cM L (aa 1) (aa 0)) (au (cM L (bE (aH U (aR (bY (aa 3) iB) (af (aa 2) aB)))) (aa 0)) aP))))
   aq))
   aq)
   (ai (bf 7 f8.nd (bD (au (bX iB (bE (bz (bE (bY (aa 3) iB)) iB))) (au (bX iB (bE (bz (bE (bY (aa 3) iB)) iB))) aP))))
   (ai (qp 8 ["_law_hand","_law_thing","_law_table"] [2] f8.nd (cW (aa 5)) (cM L (xB L (aa 2) (aa 0)) (aa 1)))
   (ai (aG (eD (bE (bz (bE (bY (aa 3) iB)) iB)) iB) (ai (bf 7 f8.nd (cM L (aa 8) iB))
   (ai (rZ E_ rfl (cW (aa 8)) (fun _=>(bM 9 f8.nd)) (fun _=>(ai (aG (dc (bE (aH Z (af (aa 9) (af (aa 7) aB))))) (ai (bf 7 f8.nd (v_ 9))
   aq)
   aq)
   aq)))
   (ai (bf 7 f8.nd (cM L (SO.toB (dy (au (v_ 7) (au (bD (au (dY iB (xB L (aa 7) iB)) (au (dY iB (xB L (aa 7) iB)) aP))) (au (bD (au (cM L (aa 7) iB) (au (bX (xB L (aa 7) iB) iB) aP))) (au (bD (au (bX (xB L (aa 7) iB) iB) (au (cM L (aa 7) iB) aP))) aP)))))) (bE (bz (bE (bY (aa 3) iB)) iB))))
   aq)))
   aq)
   (ai (aG (q_eq b (bE (bz (bE (bY (aa 3) iB)) iB)) iB) (ai (bf 7 f8.nd (cM L (SO.toB (dy (au (bD (au cO (au cO aP))) (au (bD (au (mW iB) (au cO aP))) (au (bD (au (gp iB (xB L (aa 7) iB)) (au (gp iB (xB L (aa 7) iB)) aP))) (au (bD (au cO (au cO aP))) aP)))))) (bE (bz (bE (bY (aa 3) iB)) iB))))
   aq)
   aq)
   (ai (aG (q_eq b (bE (bz (bE (bY (aa 3) iB)) iB)) iB) (ai (gF 5 f8.nd (by rfl) (ff rfl) (Ek (aa 5) (SO.toB (dy (au (cM L (SO.toB (dy (au (bD (au (mW iB) (au cO aP))) (au (bD (au (v_ 4) (au cO aP))) (au (bD (au cO (au (mW iB) aP))) (au (bD (au cO (au (v_ 4) aP))) aP)))))) (bE (bz (bE (bY (aa 3) iB)) iB))) aP)))))
   aq)
   aq)
   (ai (aG (q_eq b (bE (bz (bE (bY (aa 3) iB)) iB)) iB) (ai (gF 5 f8.nd (by rfl) (ff rfl) (Ek (aa 5) (aa 5)))
   aq)
   aq)
   (ai (bf 10 f8.nd (bz (bE (bY (aa 3) iB)) (bE (bT (by rfl) T.b_len (ax (aa 5) ay)))))
   (ai (aG (q_eq b (bE (bz (bE (bY (aa 3) iB)) iB)) iB) (ai (jh 5 L rfl (by rfl) (gJ rfl) (aa 10) (bD (au (gp (xB L (xB L (aa 5) (aa 10)) iB) (aa 4)) (au (cM L (xB L (aa 5) (aa 10)) iB) aP))))
   aq)
   aq)
   (ai (aG (q_eq b (bE (bz (bE (bY (aa 3) iB)) iB)) iB) (ai (jh 5 L rfl (by rfl) (gJ rfl) (aa 10) (bD (au (cM L (xB L (aa 5) (aa 10)) iB) (au (gp (xB L (xB L (aa 5) (aa 10)) iB) (aa 4)) aP))))
   aq)
   aq)
   (ai (lg 5 rfl (bc (bD (au (v_ 5) (au (v_ 7) aP)))))
   aq)))))))))))))⟩
def CP:=BP.1
def KG:=aK false CS CP
abbrev B9:Stmt:=top 66
abbrev CH:List Str:=["_law_script","_law_parts_here","_law_n","_law_cell_here","_law_at","_law_part","_law_got","_law_some"]
abbrev CL:List Str:=["_law_script","_law_parts_here","_law_n"]
theorem nV:FnScope CH CL (ab B9):=bC
def Bv:{B // ∀{P w K Z base} (T:Txt K Z) (A:DefAt K Z "_law_parts_made" B9) (U:Callee P w K Z base "_law_cell" jY [] 1 false az gH),Callee P w K Z base "_law_parts_made" CL [] 2 false [.bw,.bw,.sh] (aK false CH B)}:=⟨_,fun T A U=>
 bL (m':=[.bw,.bw,.sh,.sh,.sh,.sh,.sh,.sh]) A nV fun f c A a s H g E b L=>have Y:=b.units;(ai (bf 3 nV.nd (aH U (af (aa 0) (af iB aB))))
   (ai (bf 4 nV.nd (bz (bE (bY (aa 3) iB)) (bE (bT (by rfl) T.b_len (ax (aa 1) ay)))))
   (ai (rq (cM L (aa 1) (aa 4)) (hX rfl (cV (bM 5 nV.nd) (cV (bM 6 nV.nd) hW))))
   (ai (gF 7 nV.nd (by rfl) (ff rfl) (wP (by rfl) T.b_list (ax (aa 1) ay)))
   (ai (aG (q_eq Y (bE (bz (aa 3) iB)) iB) (ai (jh 7 L rfl (by rfl) (gJ rfl) (aa 4) (bD (au (bD (au (dY iB (xB L (aa 5) iB)) (au (dY iB (xB L (aa 5) iB)) aP))) (au (v_ 6) aP))))
   aq)
   aq)
   (ai (aG (q_eq Y (bE (bz (aa 3) iB)) iB) (ai (jh 7 L rfl (by rfl) (gJ rfl) (aa 4) (bD (au (bD (au (cM L (aa 5) iB) (au (dY iB (xB L (aa 5) iB)) aP))) (au (v_ 6) aP))))
   (ai (iV 7 rfl J_ YI YJ jr jS (by rfl) (gJ rfl) (au (bD (au (bD (au (cM L (aa 5) iB) (au (dY iB (xB L (aa 5) iB)) aP))) (au (cM L (SO.toB (dy (au (v_ 6) (au (Ln rfl (by rfl) T.b_tuple (by rfl) T.b_reversed (ax (aa 6) ay)) aP)))) (bE (bz (bE (bY (aa 3) iB)) iB))) aP))) aP))
   aq))
   aq)
   (ai (aG (q_eq Y (bE (bz (aa 3) iB)) iB) (ai (jh 7 L rfl (by rfl) (gJ rfl) (aa 4) (bD (au (cM L (SO.toB (dy (au (bD (au (cM L (aa 5) iB) (au (bX (xB L (aa 5) iB) iB) aP))) (au (bD (au (mW (xB L (aa 5) iB)) (au (mW (xB L (aa 5) iB)) aP))) (au (bD (au cO (au cO aP))) aP))))) (bE (bz (bE (bY (aa 3) iB)) iB))) (au (v_ 6) aP))))
   aq)
   aq)
   (ai (aG (q_eq Y (bE (bz (aa 3) iB)) iB) (ai (F9 7 rfl J_ Qdn Qdo HP HU (by rfl) (gJ rfl) (au (v_ 4) aP))
   aq)
   aq)
   (ai (aG (q_eq Y (bE (bz (aa 3) iB)) iB) (ai (jh 7 L rfl (by rfl) (gJ rfl) (aa 4) (bD (au (v_ 5) (au (cM L (SO.toB (dy (au (vQ (aa 6) (eu iB) d9) (au (bX (aa 6) (bE (bD (au cO aP)))) (au (bX (bE (bD (au (v_ 2) aP))) (bE (vQ (aa 6) (eu iB) d9))) (au (MS (bE (vQ (aa 6) d9 (eu iB))) (aa 2)) aP)))))) (bE (bz (bE (bY (aa 3) iB)) iB))) aP))))
   aq)
   aq)
   (ai (lg 7 rfl (bc (v_ 7)))
   aq))))))))))⟩
def CD:=Bv.1
def KD:=aK false CH CD
abbrev BZ:Stmt:=top 58
abbrev Cr:List Str:=["_law_wishes_here","_law_table","_law_numbers","_law_row_here","_law_shares","_law_at","_law_other"]
abbrev Cv:List Str:=["_law_wishes_here","_law_table","_law_numbers"]
theorem qd:FnScope Cr Cv (ab BZ):=bC
abbrev uG:FS:=(al (dQ jB (fR (bj (f2 (f2 (f2 (gv 4) (f2 (gv 3) (gv 5) aF) aF) (ci 0) aF) (ci 0) jd)) (bj (f2 (f2 (gv 2) (gv 6) aF) (f2 (gv 2) (f2 (gv 3) (gv 5) aF) aF) ii))) (al (bZ jB (fun _=>Res.ok (D.bl false))) be) be) be)
abbrev KR:FS:=(al (iU jB (aV bQ (j6 (gv 3) (fun _=>Res.ok none) (li (gv 5)))) (aw 6) uG) be)
abbrev Vc:FS:=(al (iU jB (cZ cR (ak (fC (ak (gv 3) ag) lenD) ag)) (aw 5) KR) be)
def B4:{B // ∀{P w K Z base} (T:Txt K Z) (A:DefAt K Z "_law_are_heights" BZ),Callee P w K Z base "_law_are_heights" Cv [] 1 false [.sh,.sh,.bw] (aK false Cr B)}:=⟨_,fun T A=>
 bL (m':=jB) A qd fun f b A Y s H g E a L=>have U:=a.units;(ai (aG (SW.toQ (bF (fN U (bE (bT (by rfl) T.b_len (ax (aa 2) ay))) (bE (bT (by rfl) T.b_len (ax (aa 0) ay)))) (fj (eD (bE (MQ rfl (by rfl) T.b_min (ax (aa 2) ay))) iB)))) (ai (bc bR)
   aq)
   aq)
   (ai (fI E_ rfl (vB (by rfl) T.b_zip (v_ 0) (v_ 1)) (hX rfl (cV (bM 3 qd.nd) (cV (bM 4 qd.nd) hW))) (ai (fI E_ rfl (eR (by rfl) T.b_range (ax (bE (bT (by rfl) T.b_len (ax (aa 3) ay))) ay)) (bM 5 qd.nd) (ai (fI E_ rfl (qY (fJ (aa 3) d9 (eu (aa 5)))) (bM 6 qd.nd) (ai (aG (SW.toQ (vM (jz (xB L (xB L (aa 4) (xB L (aa 3) (aa 5))) iB) iB) (wT (mG (xB L (aa 2) (aa 6)) (xB L (aa 2) (xB L (aa 3) (aa 5))))))) (ai (bc bR)
   aq)
   aq)
   aq))
   aq))
   aq))
   (ai (bc bR)
   aq)))⟩
def KL:=B4.1
def Co:=aK false Cr KL
abbrev BQ:Stmt:=top 62
abbrev Cg:List Str:=["_law_wishes_here","_law_table","_law_ring","_law_part","_law_things","_law_k","_law_hand","_law_thing","_law_after"]
abbrev BU:List Str:=["_law_wishes_here","_law_table","_law_ring","_law_part"]
theorem nM:FnScope Cg BU (ab BQ):=bC
abbrev p5:FS:=(al (iP fO (f2 (gv 2) (gv 5) aF) (cE (ba (aw 6) (ba (aw 7) cD)))) (al (aY fO 8 (f2 (gv 4) (f2 (f2 (gv 5) (ci 1) addA) (fC (ak (gv 4) ag) lenD) bn) aF)) (al (dQ fO (gz (dR (bj (jj (ci 0) (gv 6) (fC (ak (gv 0) ag) lenD) ii ltI))) (gz (dR (bj (jj (ci 0) (gv 7) (fC (ak (gv 0) ag) lenD) ii ltI))) (dR (bj (jj (ci 0) (gv 8) (fC (ak (gv 0) ag) lenD) ii ltI))))) (al (bZ fO (fun _=>Res.ok (D.bl false))) be) be) (al (dQ fO (gz (bj (f2 (fM "tuple" (f2 (gv 0) (gv 6) aF) (ak (gv 8) ag) km) (fM "tuple" (f2 (gv 0) (gv 6) aF) (ak (gv 7) ag) km) n0)) (cL (bx (ak (f2 (f2 (gv 1) (gv 6) aF) (gv 7) aF) (ak (gv 3) ag)) [] mn))) (al (bZ fO (fun _=>Res.ok (D.bl false))) be) be) be))))
def A5:{B // ∀{P w K Y base} (T:Txt K Y) (A:DefAt K Y "_law_can_hand" BQ) (L:Callee P w K Y base "_law_less" tK [] 1 false az mn),Callee P w K Y base "_law_can_hand" BU [] 2 false dm (aK false Cg B)}:=⟨_,fun T A L=>
 bL (m':=fO) A nM fun f a A Z s H g E b U=>(ai (qp 4 ["_law_hand","_law_thing"] [] nM.nd (cW (aa 2)) (v_ 1))
   (ai (aG (SW.toQ (bF (eD (bE (bT (by rfl) T.b_len (ax (aa 2) ay))) iB) (bF (eD (bE (Qs rfl (by rfl) T.b_len (by rfl) T.b_set (aa 4))) (bE (bT (by rfl) T.b_len (ax (aa 4) ay)))) (bF (eD (xB U (aa 3) iB) iB) (fj (eD (xB U (aa 3) iB) iB)))))) (ai (bc bR)
   aq)
   aq)
   (ai (fI E_ rfl (eR (by rfl) T.b_range (ax (bE (bT (by rfl) T.b_len (ax (aa 2) ay))) ay)) (bM 5 nM.nd) (ai (rq (cM U (aa 2) (aa 5)) (hX rfl (cV (bM 6 nM.nd) (cV (bM 7 nM.nd) hW))))
   (ai (bf 8 nM.nd (cM U (aa 4) (bE (bz (bE (bX (aa 5) iB)) (bE (bT (by rfl) T.b_len (ax (aa 4) ay)))))))
   (ai (aG (SW.toQ (bF (d7 (zy ot ng rN rF iB (aa 6) (bE (bT (by rfl) T.b_len (ax (aa 0) ay))))) (bF (d7 (zy ot ng rN rF iB (aa 7) (bE (bT (by rfl) T.b_len (ax (aa 0) ay))))) (fj (d7 (zy ot ng rN rF iB (aa 8) (bE (bT (by rfl) T.b_len (ax (aa 0) ay))))))))) (ai (bc bR)
   aq)
   aq)
   (ai (aG (SW.toQ (bF (Dw (bE (iA ZP Zo ZQ pF pD (xB U (aa 0) (aa 6)) (ax (aa 8) ay))) (bE (iA ZP Zo ZQ pF pD (xB U (aa 0) (aa 6)) (ax (aa 7) ay)))) (fj (dc (bE (aH L (af (xB U (xB U (aa 1) (aa 6)) (aa 7)) (af (aa 3) aB)))))))) (ai (bc bR)
   aq)
   aq)
   aq)))))
   (ai (bc bR)
   aq))))⟩
def Kt:=A5.1
def Cc:=aK false Cg Kt
abbrev By:Stmt:=top 63
abbrev CQ:List Str:=["_law_table","_law_parts_here","_law_n","_law_total","_law_part","_law_got"]
abbrev uJ:List Str:=["_law_table","_law_parts_here"]
theorem mq:FnScope CQ uJ (ab By):=bC
abbrev uE:FS:=(al (dQ gu (gz (bj (f2 (f2 (gv 4) (ci 0) aF) (ci 1) ltI)) (gz (bj (f2 (f2 (gv 4) (ci 1) aF) (ci 1) ltI)) (bj (f2 (fC (ak (gv 5) ag) oW) (fC (ak (gv 2) ag) lP) neD)))) (al (bZ gu (fun _=>Res.ok (D.bl false))) be) be) (al (aY gu 3 (bx (ak (gv 3) (ak (gv 4) ag)) [] mo)) be))
def BO:{B // ∀{P w K Z base} (T:Txt K Z) (A:DefAt K Z "_law_are_parts" By) (U:Callee P w K Z base "_law_plus" tM [] 3 false az mo) (L:Callee P w K Z base "_law_mixed" nS [] 4 false az nH),Callee P w K Z base "_law_are_parts" uJ [] 5 false az (aK false CQ B)}:=⟨_,fun T A U L=>
 bL (m':=gu) A mq fun f d A b s H g E c a=>have Y:=c.units;(ai (bf 2 mq.nd (bT (by rfl) T.b_len (ax (aa 0) ay)))
   (ai (aG (SW.toQ (bF (jz (bE (bT (by rfl) T.b_len (ax (aa 1) ay))) (bE (bX (bE (dY (bE (gp (aa 2) iB)) (bE (gp (aa 2) iB)))) iB))) (fj (eD (bE (ID rfl Y (by rfl) T.b_len (by rfl) T.b_set (ax (SO.toB (lL ["_law_part","_law_got"] [] mq.nd (cW (aa 1)) (dZ (by rfl) T.b_tuple (ax (aa 1) ay)))) ay))) (bE (bT (by rfl) T.b_len (ax (aa 1) ay))))))) (ai (bc bR)
   aq)
   aq)
   (ai (bf 3 mq.nd (bD (au cO (au cO aP))))
   (ai (rZ E_ rfl (cW (aa 1)) (fun _=>(hX rfl (cV (bM 4 mq.nd) (cV (bM 5 mq.nd) hW)))) (fun _=>(ai (aG (SW.toQ (bF (eD (xB a (aa 4) iB) iB) (bF (eD (xB a (aa 4) iB) iB) (fj (fN Y (SO.toB (RJ c (by rfl) T.b_sorted (ax (aa 5) ay))) (SO.toB (Gy rfl (by rfl) T.b_list (by rfl) T.b_range (ax (aa 2) ay)))))))) (ai (bc bR)
   aq)
   aq)
   (ai (bf 3 mq.nd (aH U (af (aa 3) (af (aa 4) aB))))
   aq))))
   (ai (bc (fm (dM Y (aa 3) (bE (bD (au cO (au cO aP))))) (gL (dM Y (bE (aH L (af (aa 1) (af (aa 2) aB)))) (aa 0)))))
   aq)))))⟩
def KF:=BO.1
def pZ:=aK false CQ KF
abbrev sT:Stmt:=top 15
abbrev Ht:List Str:=["value"]
abbrev l9:List Str:=["value"]
theorem td:FnScope Ht l9 (ab sT):=bC
def Hs(Fr:List D->Res D):FS:=(al (dQ [Md.bw] (cL (f1 (gv 0) (jG "list"))) (al (bZ [Md.bw] (db 1 [] (aV bQ (gv 0)) (aw 0) (fun _=>Res.ok true) (bx (ak (gv 0) ag) [] Fr))) be) be) (al (dQ [Md.bw] (cL (f1 (gv 0) (jG "tuple"))) (al (bZ [Md.bw] (fC (ak (db 1 [] (aV bQ (gv 0)) (aw 0) (fun _=>Res.ok true) (bx (ak (gv 0) ag) [] Fr)) ag) tupD)) be) be) (al (qr [Md.bw] (gv 0)) be)))
def ny:Nat->List D->Res D
|0=>fun ds=>cX false (Out.stuck)
|n+1=>fun ds=>cX false (Hs (ny n) (bP Ht.length ds))
abbrev lB:List D->Res D:=ny 6
theorem JB(T:Txt K mg)(A:DefAt K mg "copied" sT):∀n,Callee P w K mg base "copied" l9 [] (n+1) false [Md.bw] (ny n)
|0=>wX (k:=0) (ms:=[Md.bw]) (fs:=fun _=>Out.stuck) (m':=[Md.bw]) A td rfl (fun _ _ _ _ _ _ Y Z=>by obtain⟨d,rfl⟩:=Ex Y Z;kernel_rfl) fun f a A L s H g E U=>⟨rfl,Qw.2⟩
|n+1=>by
  have c:Callee P w K mg base "copied" l9 [] (n+1) false [Md.bw] (ny n):=JB T A n;refine wX (k:=n+1) (ms:=[Md.bw]) (fs:=Hs (ny n)) (m':=[Md.bw]) A td rfl (fun _ _ _ _ _ _ Y Z=>by obtain⟨d,rfl⟩:=Ex Y Z;kernel_rfl) fun f a A L s H g E U=>?_;have e:=om U;have b:=U.units;exact(ai (aG (dc (bE (lh "list" "list" rfl (PR _) (by rfl) T.b_isinstance (by rfl) T.b_list (aa 0)))) (ai (bc (SO.toE (gT ["one"] [] td.nd (cW (aa 0)) (wM (dds:=[]) c (U.mono (by omega)) (af (aa 0) aB)))))
   aq)
   aq)
   (ai (aG (dc (bE (lh "tuple" "tuple" rfl (IM _) (by rfl) T.b_isinstance (by rfl) T.b_tuple (aa 0)))) (ai (bc (dZ (by rfl) T.b_tuple (ax (SO.toB (gT ["one"] [] td.nd (cW (aa 0)) (wM (dds:=[]) c (U.mono (by omega)) (af (aa 0) aB)))) ay)))
   aq)
   aq)
   (ai (MT (aa 0))
   aq)))
theorem uX(T:Txt K mg)(A:DefAt K mg "copied" sT):Callee P w K mg base "copied" l9 [] 7 false [Md.bw] lB:=JB T A 6
abbrev lZ:Stmt:=nr (top 44) 0
abbrev Jz:List Str:=["self","heights"]
abbrev AK:List Str:=["self","heights"]
theorem Ug:FnScope Jz AK (ab lZ):=bC
def Js:FN:=(gy "heights" (bx (ak (gv 1) ag) [] lB) (fun _ ds=>Res.ok ds))
def nJ:lO:=fun ds=>Js (none::(ds.map some++t_ (Jz.length-(ds.length+1)) none)) []
theorem Pm(T:Txt K mg)(A:MakeAt K mg "Rising" "Rising" "Rising.__init__" lZ)(U:Callee P w K mg base "copied" l9 [] 7 false [Md.bw] lB)(L:fT K "heights" nz):CalleeN P w K mg base "Rising" "Rising" AK [] 8 [Md.bw] nJ:=by refine yQ A Ug rfl (fun _ _ _ _ _ _ a b=>by obtain⟨e,d,rfl⟩:=Ey a b;kernel_rfl) fun C Z f c A Y s H g E h=>?_;exact(rX (L "Rising" C rfl Z).1 (L "Rising" C rfl Z).2 rfl (by first|exact Or.inl rfl|grind|grind) (aH U (af (aa 1) aB)) vU)
abbrev l6:Stmt:=nr (top 45) 0
abbrev Bj:List Str:=["self","ring","part"]
abbrev A2:List Str:=["self","ring","part"]
theorem Uv:FnScope Bj A2 (ab l6):=bC
def Ba:FN:=(gy "ring" (bx (ak (gv 1) ag) [] lB) (gy "part" (bx (ak (gv 2) ag) [] lB) (fun _ ds=>Res.ok ds)))
def nR:lO:=fun ds=>Ba (none::(ds.map some++t_ (Bj.length-(ds.length+1)) none)) []
theorem QE(T:Txt K mg)(A:MakeAt K mg "Handing" "Handing" "Handing.__init__" l6)(L:Callee P w K mg base "copied" l9 [] 7 false [Md.bw] lB)(Y:fT K "part" oJ)(U:fT K "ring" oK):CalleeN P w K mg base "Handing" "Handing" A2 [] 8 az nR:=by refine yQ (k:=7) (fn:=Ba) A Uv rfl (fun _ _ _ _ _ _ b c=>by obtain⟨i,h,e,rfl⟩:=q8 b c;kernel_rfl) fun C Z f d A a s H g E j=>?_;exact(rX (U "Handing" C rfl Z).1 (U "Handing" C rfl Z).2 rfl (by first|exact Or.inl rfl|grind|grind) (aH L (af (aa 1) aB)) (rX (Y "Handing" C rfl Z).1 (Y "Handing" C rfl Z).2 rfl (by first|exact Or.inl rfl|grind|grind) (aH L (af (aa 2) aB)) vU))
abbrev lY:Stmt:=nr (top 46) 0
abbrev Jy:List Str:=["self","parts"]
abbrev pR:List Str:=["self","parts"]
theorem Uf:FnScope Jy pR (ab lY):=bC
def Jr:FN:=(gy "parts" (bx (ak (gv 1) ag) [] lB) (fun _ ds=>Res.ok ds))
def jq:lO:=fun ds=>Jr (none::(ds.map some++t_ (Jy.length-(ds.length+1)) none)) []
theorem Pl(T:Txt K mg)(A:MakeAt K mg "Parted" "Parted" "Parted.__init__" lY)(L:Callee P w K mg base "copied" l9 [] 7 false [Md.bw] lB)(U:fT K "parts" oV):CalleeN P w K mg base "Parted" "Parted" pR [] 8 [Md.bw] jq:=by refine yQ A Uf rfl (fun _ _ _ _ _ _ a b=>by obtain⟨e,d,rfl⟩:=Ey a b;kernel_rfl) fun C Z f c A Y s H g E h=>?_;exact(rX (U "Parted" C rfl Z).1 (U "Parted" C rfl Z).2 rfl (by first|exact Or.inl rfl|grind|grind) (aH L (af (aa 1) aB)) vU)
abbrev Ax:Stmt:=top 9
abbrev AH:List Str:=["wishes"]
abbrev AL:List Str:=["wishes"]
theorem Uh:FnScope AH AL (ab Ax):=bC
def zN:{B // ∀{P w K U base} (T:Txt K U) (A:DefAt K U "things_in" Ax),Callee P w K U base "things_in" AL [] 1 false [Md.bw] (aK false AH B)}:=⟨_,fun T A=>
 bL A Uh fun f Z A L s H g E a Y=>(ai (bc (bT (rfl) T.b_len (ax (xB Y (aa 0) iB) ay)))
   aq)⟩
def Jt:=zN.1
def Jw:=aK false AH Jt
abbrev Aw:Stmt:=top 10
abbrev AG:List Str:=["wishes"]
abbrev AJ:List Str:=["wishes"]
theorem Ue:FnScope AG AJ (ab Aw):=bC
def zM:{B // ∀{P w K Y base} (T:Txt K Y) (A:DefAt K Y "is_square" Aw) (L:Callee P w K Y base "things_in" AL [] 1 false [Md.bw] Jw),Callee P w K Y base "is_square" AJ [] 2 false [Md.bw] (aK false AG B)}:=⟨_,fun T A L=>
 bL A Ue fun f c A Z s H g E b a=>have U:=b.units;(ai (bc (dM U (bE (aH L (af (aa 0) aB))) (bE (bT (rfl) T.b_len (ax (aa 0) ay)))))
   aq)⟩
def Jq:=zM.1
def Jv:=aK false AG Jq
abbrev B2:Stmt:=top 19
abbrev Ct:List Str:=["one","other","rest"]
abbrev Cz:List Str:=["one","other"]
theorem uF:FnScope Ct Cz (ab B2):=bC
def Kp:{B // ∀{P w K Y base} (T:Txt K Y) (A:DefAt K Y "greatest_divisor" B2),Callee P w K Y base "greatest_divisor" Cz [] 1 false cj (aK false Ct B)}:=⟨_,fun T A=>
 bL A uF fun f b A U s H g E a Z=>have L:=a.units;(ai (so 1000 E_ (fN L (aa 1) iB) (ai (bf 2 uF.nd (bz (aa 0) (aa 1)))
   (ai (bf 0 uF.nd (v_ 1))
   (ai (bf 1 uF.nd (v_ 2))
   aq))))
   (ai (bc (ES (by rfl) T.b_abs (ax (aa 0) ay)))
   aq))⟩
def U5:=Kp.1
def KH:=aK false Ct U5
abbrev zT:Stmt:=top 4
abbrev Ae:List Str:=["value"]
abbrev nG:List Str:=["value"]
theorem T3:FnScope Ae nG (ab zT):=bC
def oF:{B // ∀{P w K U base} (T:Txt K U) (A:DefAt K U "is_whole" zT),Callee P w K U base "is_whole" nG [] 1 false [Md.bw] (aK false Ae B)}:=⟨_,fun T A=>
 bL (m':=[Md.bw]) A T3 fun f Z A L s H g E a Y=>(ai (bc (fm (lh "int" "int" rfl (Pd _) (by rfl) T.b_isinstance (by rfl) T.b_int (aa 0)) (gL (vO (lh "bool" "bool" rfl (sG _) (by rfl) T.b_isinstance (by rfl) T.b_bool (aa 0))))))
   aq)⟩
def Sh:=oF.1
def lE:=aK false Ae Sh
abbrev z8:Stmt:=top 20
abbrev AB:List Str:=["top","bottom","divisor"]
abbrev Ai:List Str:=["top","bottom"]
theorem AN:FnScope AB Ai (ab z8):=bC
def HE:{B // ∀{P w K Y base} (T:Txt K Y) (A:DefAt K Y "fraction" z8) (U:Callee P w K Y base "is_whole" nG [] 1 false [Md.bw] lE) (L:Callee P w K Y base "greatest_divisor" Cz [] 1 false cj KH),Callee P w K Y base "fraction" Ai [] 2 false cj (aK false AB B)}:=⟨_,fun T A U L=>
 bL (m':=dB) A AN fun f d A a s H g E c b=>have Z:=c.units;(ai (aG (SW.toQ (bF (d7 (dc (bE (aH U (af (aa 0) aB))))) (bF (d7 (dc (bE (aH U (af (aa 1) aB))))) (fj (q_eq Z (aa 1) iB))))) (ai OK
   aq)
   aq)
   (ai (bf 2 AN.nd (aH L (aR (v_ 0) (aR (v_ 1) aB))))
   (ai (aG (eD (aa 1) iB) (ai (bf 2 AN.nd (mW (aa 2)))
   aq)
   aq)
   (ai (bc (bD (au (sn (aa 0) (aa 2)) (au (sn (aa 1) (aa 2)) aP))))
   aq))))⟩
def Sg:=HE.1
def Jf:=aK false AB Sg
abbrev xM:Stmt:=top 22
abbrev wO:List Str:=["a","b"]
abbrev wJ:List Str:=["a","b"]
theorem OM:FnScope wO wJ (ab xM):=bC
def D5:{B // ∀{P w K Y base} (T:Txt K Y) (A:DefAt K Y "plus" xM) (L:Callee P w K Y base "fraction" Ai [] 2 false cj Jf),Callee P w K Y base "plus" wJ [] 3 false az (aK false wO B)}:=⟨_,fun T A L=>
 bL (m':=az) A OM fun f a A Z s H g E b U=>(ai (bc (aH L (aR (bX (bE (jU (xB U (aa 0) iB) (xB U (aa 1) iB))) (bE (jU (xB U (aa 1) iB) (xB U (aa 0) iB)))) (aR (jU (xB U (aa 0) iB) (xB U (aa 1) iB)) aB))))
   aq)⟩
def LF:=D5.1
def oG:=aK false wO LF
abbrev yG:Stmt:=top 24
abbrev xS:List Str:=["shares","told","share"]
abbrev oY:List Str:=["shares"]
theorem sO:FnScope xS oY (ab yG):=bC
abbrev Iv:FS:=(al (aY [.bw,.sh,.sh] 1 (bx (ak (gv 1) (ak (gv 2) ag)) [] oG)) be)
def rW:{B // ∀{P w K U base} (T:Txt K U) (A:DefAt K U "total" yG) (L:Callee P w K U base "plus" wJ [] 3 false az oG),Callee P w K U base "total" oY [] 4 false [Md.bw] (aK false xS B)}:=⟨_,fun T A L=>
 bL A sO fun f a A Y s H g E b Z=>(ai (bf 1 sO.nd (l5 (by rfl) T.k_NOUGHT))
   (ai (rZ E_ rfl (cW (aa 0)) (fun _=>(bM 2 sO.nd)) (fun _=>(ai (bf 1 sO.nd (aH L (af (aa 1) (af (aa 2) aB))))
   aq)))
   (ai (bc (v_ 1))
   aq)))⟩
def xO:=rW.1
def lA:=aK false xS xO
abbrev Av:Stmt:=top 21
abbrev AF:List Str:=["value"]
abbrev pP:List Str:=["value"]
theorem Ud:FnScope AF pP (ab Av):=bC
def sY:{B // ∀{P w K Z base} (T:Txt K Z) (A:DefAt K Z "has_worth" Av) (L:Callee P w K Z base "is_whole" nG [] 1 false [Md.bw] lE),Callee P w K Z base "has_worth" pP [] 2 false [Md.bw] (aK false AF B)}:=⟨_,fun T A L=>
 bL (m':=[Md.bw]) A Ud fun f c A a s H g E b U=>have Y:=b.units;(ai (aG (SW.toQ (bF (d7 (dc (bE (lh "tuple" "tuple" rfl (IM _) (by rfl) T.b_isinstance (by rfl) T.b_tuple (aa 0))))) (fj (fN Y (bE (bT (by rfl) T.b_len (ax (aa 0) ay))) iB)))) (ai (bc bR)
   aq)
   aq)
   (ai (bc (fm (aH L (af (xB U (aa 0) iB) aB)) (fm (aH L (af (xB U (aa 0) iB) aB)) (gL (qq (xB U (aa 0) iB) iB)))))
   aq))⟩
def AX:=sY.1
def kn:=aK false AF AX
abbrev xL:Stmt:=top 23
abbrev wN:List Str:=["a","b"]
abbrev lU:List Str:=["a","b"]
theorem OL:FnScope wN lU (ab xL):=bC
def mU:{B // ∀{P w K Y base} (T:Txt K Y) (A:DefAt K Y "less" xL),Callee P w K Y base "less" lU [] 1 false az (aK false wN B)}:=⟨_,fun T A=>
 bL A OL fun f Z A U s H g E a L=>(ai (bc (mC (bE (jU (xB L (aa 0) iB) (xB L (aa 1) iB))) (bE (jU (xB L (aa 1) iB) (xB L (aa 0) iB)))))
   aq)⟩
def LD:=mU.1
def gM:=aK false wN LD
abbrev B3:Stmt:=top 32
abbrev Cu:List Str:=["row","many"]
abbrev CA:List Str:=["row","many"]
theorem CU:FnScope Cu CA (ab B3):=bC
def B6:{B // ∀{P w K a base} (T:Txt K a) (A:DefAt K a "is_row_of_shares" B3) (L:Callee P w K a base "has_worth" pP [] 2 false [Md.bw] kn) (U:Callee P w K a base "total" oY [] 4 false [Md.bw] lA) (Y:Callee P w K a base "less" lU [] 1 false az gM),Callee P w K a base "is_row_of_shares" CA [] 5 false az (aK false Cu B)}:=⟨_,fun T A L U Y=>
 bL (m':=az) A CU fun f e A b s H g E d c=>have Z:=d.units;(ai (aG (SW.toQ (bF (d7 (dc (bE (MO (by rfl) T.b_isinstance (by rfl) T.b_list (by rfl) T.b_tuple (aa 0))))) (bF (fN Z (bE (bT (by rfl) T.b_len (ax (aa 0) ay))) (aa 1)) (fj (d7 (dc (bE (lS rfl (by rfl) T.b_all (ax (SO.toB (gT ["share"] [] CU.nd (cW (aa 0)) (aH L (af (aa 0) aB)))) ay))))))))) (ai (bc bR)
   aq)
   aq)
   (ai (bc (fm (vO (LX rfl (by rfl) T.b_any (ax (SO.toB (gT ["share"] [] CU.nd (cW (aa 0)) (aH Y (af (aa 0) (af (bE (l5 (by rfl) T.k_NOUGHT)) aB))))) ay))) (gL (dM Z (bE (aH U (af (aa 0) aB))) (bE (l5 (by rfl) T.k_ONE))))))
   aq))⟩
def KM:=B6.1
def Cq:=aK false Cu KM
abbrev A9:Stmt:=top 33
abbrev Cj:List Str:=["rows","place","row"]
abbrev Cn:List Str:=["rows"]
theorem pY:FnScope Cj Cn (ab A9):=bC
abbrev UT:FS:=(al (dQ dB (dR (cL (bx (ak (gv 2) (ak (fC (ak (gv 0) ag) lenD) ag)) [] Cq))) (al (bZ dB (ie (ak (fun _=>Res.ok (D.str "row")) (ak (gv 1) ag)))) be) be) be)
abbrev UU:FS:=(al (dQ dB (bj (f2 (bx (ak (db 1 [1] (aV bQ (gv 0)) (aw 0) (fun _=>Res.ok true) (f2 (gv 0) (gv 1) aF)) ag) [] lA) (fun _=>Res.ok (D.tup [D.int 1,D.int 1])) neD)) (al (bZ dB (ie (ak (fun _=>Res.ok (D.str "column")) (ak (gv 1) ag)))) be) be) be)
def JM:{B // ∀{P w K Y base} (T:Txt K Y) (A:DefAt K Y "why_no_table" A9) (L:Callee P w K Y base "is_row_of_shares" CA [] 5 false az Cq) (U:Callee P w K Y base "total" oY [] 4 false [Md.bw] lA),Callee P w K Y base "why_no_table" Cn [] 6 false [Md.sh] (aK false Cj B)}:=⟨_,fun T A L U=>
 bL (m':=dB) A pY fun f d A a s H g E c b=>have Z:=c.units;(ai (fI E_ rfl (ML (by rfl) T.b_enumerate (v_ 0)) (hX rfl (cV (bM 1 pY.nd) (cV (bM 2 pY.nd) hW))) (ai (aG (d7 (dc (bE (aH L (af (aa 2) (af (bE (bT (by rfl) T.b_len (ax (aa 0) ay))) aB)))))) (ai (bc (bD (au ED (au (v_ 1) aP))))
   aq)
   aq)
   aq))
   (ai (fI E_ rfl (eR (by rfl) T.b_range (ax (bE (bT (by rfl) T.b_len (ax (aa 0) ay))) ay)) (bM 1 pY.nd) (ai (aG (fN Z (bE (aH U (af (SO.toB (gT ["row","place"] [1] pY.nd (cW (aa 0)) (cM b (aa 0) (aa 1)))) aB))) (bE (l5 (by rfl) T.k_ONE))) (ai (bc (bD (au ED (au (v_ 1) aP))))
   aq)
   aq)
   aq))
   (ai (bc mX)
   aq)))⟩
def UL:=JM.1
def Kj:=aK false Cj UL
abbrev zS:Stmt:=top 34
abbrev Ad:List Str:=["wishes","told"]
abbrev pK:List Str:=["wishes","told"]
theorem T0:FnScope Ad pK (ab zS):=bC
def zQ:{B // ∀{P w K Y base} (T:Txt K Y) (A:DefAt K Y "is_table" zS) (L:Callee P w K Y base "why_no_table" Cn [] 6 false [Md.sh] Kj) (U:Callee P w K Y base "is_square" AJ [] 2 false [Md.bw] Jv),Callee P w K Y base "is_table" pK [] 7 false [.bw,.sh] (aK false Ad B)}:=⟨_,fun T A L U=>
 bL (m':=[.bw,.sh]) A T0 fun f d A a s H g E c b=>have Z:=c.units;(ai (bc (fm (aH U (af (aa 0) aB)) (fm (dM Z (bE (bT (by rfl) T.b_len (ax (aa 1) ay))) (bE (bT (by rfl) T.b_len (ax (aa 0) ay)))) (gL (Dl (bE (aH L (aR (v_ 1) aB))) (bE mX))))))
   aq)⟩
def Jc:=zQ.1
def pJ:=aK false Ad Jc
abbrev yE:Stmt:=top 11
abbrev xQ:List Str:=["wishes","hand","one","other","row"]
abbrev xU:List Str:=["wishes","hand","one","other"]
theorem Ie:FnScope xQ xU (ab yE):=bC
def EW:{B // ∀{P w K U base} (T:Txt K U) (A:DefAt K U "likes" yE),Callee P w K U base "likes" xU [] 1 false dm (aK false xQ B)}:=⟨_,fun T A=>
 bL A Ie fun f Z A L s H g E a Y=>(ai (bf 4 Ie.nd (cM Y (aa 0) (aa 1)))
   (ai (bc (mC (bE (iA ZP Zo ZQ pF pD (aa 4) (ax (aa 2) ay))) (bE (iA ZP Zo ZQ pF pD (aa 4) (ax (aa 3) ay)))))
   aq))⟩
def N5:=EW.1
def Gw:=aK false xQ N5
abbrev Ca:Stmt:=top 35
abbrev CI:List Str:=["wishes","table","thing","other","having"]
abbrev uL:List Str:=["wishes","table","thing","other"]
theorem CB:FnScope CI uL (ab Ca):=bC
def Bx:{B // ∀{P w K Y base} (T:Txt K Y) (A:DefAt K Y "hands_that_rise" Ca) (U:Callee P w K Y base "less" lU [] 1 false az gM) (L:Callee P w K Y base "likes" xU [] 1 false dm Gw),Callee P w K Y base "hands_that_rise" uL [] 2 false dm (aK false CI B)}:=⟨_,fun T A U L=>
 bL (m':=[.bw,.bw,.bw,.bw,.ow]) A CB fun f b A a s H g E c Z=>(ai (j4 4 ["hand","thing","table"] [2,1] CB.nd (gj.toC (eR (by rfl) T.b_range (ax (bE (bT (by rfl) T.b_len (ax (aa 0) ay))) ay))) (v_ 0) (hq:=(oO (dc (bE (aH U (af (bE (l5 (by rfl) T.k_NOUGHT)) (af (xB Z (xB Z (aa 2) (aa 0)) (aa 1)) aB))))))))
   (ai (bc (SO.toE (gT ["hand","wishes","other","thing"] [0,3,2] CB.nd (cW (aa 4)) (v_ 0) (hq:=(oO (dc (bE (aH L (af (aa 1) (af (aa 0) (af (aa 2) (af (aa 3) aB))))))))))))
   aq))⟩
def KA:=Bx.1
def p4:=aK false CI KA
abbrev zV:Stmt:=top 36
abbrev Ag:List Str:=["wishes","table","things","steps","thing"]
abbrev Ak:List Str:=["wishes","table"]
theorem pT:FnScope Ag Ak (ab zV):=bC
abbrev TL:FS:=(al (putF [.bw,.bw,.sh,.ow,.sh] 3 (gv 4) (db 1 [0,1,4] (aV bQ (gv 2)) (aw 0) (cL (bx (ak (gv 1) (ak (gv 2) (ak (gv 3) (ak (gv 0) ag)))) [] p4)) (gv 0))) be)
def zR:{B // ∀{P w K U base} (T:Txt K U) (A:DefAt K U "steps_up" zV) (L:Callee P w K U base "hands_that_rise" uL [] 2 false dm p4),Callee P w K U base "steps_up" Ak [] 3 false az (aK false Ag B)}:=⟨_,fun T A L=>
 bL (m':=[.bw,.bw,.sh,.sh,.sh]) A pT fun f a A Y s H g E b Z=>(ai (bf 2 pT.nd (SO.toE (Gy rfl (by rfl) T.b_list (by rfl) T.b_range (ax (bE (bT (by rfl) T.b_len (ax (aa 1) ay))) ay))))
   (ai (gF 3 pT.nd (by rfl) (ff rfl) Fe)
   (ai (fI E_ rfl (qY (v_ 2)) (bM 4 pT.nd) (ai (jh 3 Z rfl (by rfl) (by first|exact Or.inl rfl|grind|grind) (aa 4) (SO.toE (gT ["other","wishes","table","thing"] [0,1,4] pT.nd (cW (aa 2)) (v_ 0) (hq:=(oO (dc (bE (aH L (af (aa 1) (af (aa 2) (af (aa 3) (af (aa 0) aB))))))))))))
   aq))
   (ai (lg 3 rfl (bc (v_ 3)))
   aq))))⟩
def Jd:=zR.1
def Jg:=aK false Ag Jd
abbrev AW:Stmt:=top 37
abbrev Bl:List Str:=["steps","numbers","thing"]
abbrev A3:List Str:=["steps","numbers","thing"]
theorem Kr:FnScope Bl A3 (ab AW):=bC
def IW:{B // ∀{P w K Y base} (T:Txt K Y) (A:DefAt K Y "rises_from" AW),Callee P w K Y base "rises_from" A3 [] 1 false cF (aK false Bl B)}:=⟨_,fun T A=>
 bL A Kr fun f Z A U s H g E a L=>(ai (bc (lS rfl (by rfl) T.b_all (ax (SO.toB (gT ["other","numbers","thing"] [1,2] Kr.nd (cW (xB L (aa 0) (aa 2))) (qq (xB L (aa 1) (aa 0)) (xB L (aa 1) (aa 2))))) ay)))
   aq)⟩
def TK:=IW.1
def Bc:=aK false Bl TK
abbrev Bp:Stmt:=top 38
abbrev BH:List Str:=["wishes","table","numbers","steps"]
abbrev BL:List Str:=["wishes","table","numbers"]
theorem uB:FnScope BH BL (ab Bp):=bC
def AQ:{B // ∀{P w K Z base} (T:Txt K Z) (A:DefAt K Z "are_heights" Bp) (Y:Callee P w K Z base "is_whole" nG [] 1 false [Md.bw] lE) (U:Callee P w K Z base "steps_up" Ak [] 3 false az Jg) (L:Callee P w K Z base "rises_from" A3 [] 1 false cF Bc),Callee P w K Z base "are_heights" BL [] 4 false cF (aK false BH B)}:=⟨_,fun T A Y U L=>
 bL (m':=[.bw,.bw,.bw,.sh]) A uB fun f e A b s H g E d c=>have a:=d.units;(ai (aG (SW.toQ (bF (fN a (bE (bT (by rfl) T.b_len (ax (aa 2) ay))) (bE (bT (by rfl) T.b_len (ax (aa 1) ay)))) (fj (d7 (dc (bE (lS rfl (by rfl) T.b_all (ax (SO.toB (gT ["number"] [] uB.nd (cW (aa 2)) (fm (aH Y (af (aa 0) aB)) (gL (Dn (aa 0) iB))))) ay)))))))) (ai (bc bR)
   aq)
   aq)
   (ai (bf 3 uB.nd (aH U (af (aa 0) (af (aa 1) aB))))
   (ai (bc (lS rfl (by rfl) T.b_all (ax (SO.toB (gT ["thing","steps","numbers"] [3,2] uB.nd (NS (v_ 3)) (aH L (af (aa 1) (af (aa 2) (af (aa 0) aB)))))) ay)))
   aq)))⟩
def J6:=AQ.1
def BE:=aK false BH J6
abbrev l8:Stmt:=nr (top 44) 1
abbrev Km:List Str:=["self","wishes","told"]
abbrev Cm:List Str:=["self","wishes","told"]
theorem U2:FnScope Km Cm (ab l8):=bC
def t8:FS:=(al (bZ dB (gO (bx (ak (gv 1) (ak (gv 2) ag)) [] pJ) (bx (ak (gv 1) (ak (gv 2) (ak (f1 (gv 0) (gX nz "heights")) ag))) [] BE))) be)
def p9:List D->Res D:=fun ds=>cX false (t8 (bP Km.length ds))
theorem RL(T:Txt K mg)(A:MethAt K "Rising" "shows" "Rising.shows" l8)(L:Callee P w K mg base "are_heights" BL [] 4 false cF BE)(Y:Callee P w K mg base "is_table" pK [] 7 false [.bw,.sh] pJ)(U:fT K "heights" nz):CalleeM P w K mg base "shows" Cm 8 (fun x=>x == "Rising") cj p9:=by
 refine yR (k:=7) (fs:=t8) (m':=dB) A U2 rfl (fun _ _ _ _ _ _ b d=>by obtain⟨j,i,h,rfl⟩:=q8 b d;kernel_rfl) fun f e A Z s H g E c=>?_;have a:=c.units;exact(ai (bc (fm (aH Y (af (aa 1) (aR (v_ 2) aB))) (gL (aH L (af (aa 1) (af (aa 2) (af (bE (mV U (aa 0))) aB)))))))
   aq)
abbrev yD:Stmt:=top 25
abbrev xP:List Str:=["shares","told","share"]
abbrev xT:List Str:=["shares"]
theorem sN:FnScope xP xT (ab yD):=bC
abbrev RF:FS:=(al (dQ [.bw,.sh,.sh] (cL (bx (ak (gv 2) (ak (gv 1) ag)) [] gM)) (al (aY [.bw,.sh,.sh] 1 (gv 2)) be) be) be)
def EV:{B // ∀{P w K U base} (T:Txt K U) (A:DefAt K U "least" yD) (L:Callee P w K U base "less" lU [] 1 false az gM),Callee P w K U base "least" xT [] 2 false [Md.bw] (aK false xP B)}:=⟨_,fun T A L=>
 bL A sN fun f a A Y s H g E b Z=>(ai (bf 1 sN.nd (cM Z (aa 0) iB))
   (ai (rZ E_ rfl (cW (aa 0)) (fun _=>(bM 2 sN.nd)) (fun _=>(ai (aG (dc (bE (aH L (af (aa 2) (af (aa 1) aB))))) (ai (bf 1 sN.nd (v_ 2))
   aq)
   aq)
   aq)))
   (ai (bc (v_ 1))
   aq)))⟩
def N4:=EV.1
def Gv:=aK false xP N4
abbrev z7:Stmt:=top 40
abbrev AA:List Str:=["table","ring"]
abbrev Ah:List Str:=["table","ring"]
theorem JY:FnScope AA Ah (ab z7):=bC
def HD:{B // ∀{P w K Y base} (T:Txt K Y) (A:DefAt K Y "can_hand" z7) (L:Callee P w K Y base "least" xT [] 2 false [Md.bw] Gv),Callee P w K Y base "can_hand" Ah [] 3 false az (aK false AA B)}:=⟨_,fun T A L=>
 bL A JY fun f a A Z s H g E b U=>(ai (bc (aH L (af (SO.toB (lL ["hand","thing","table"] [0] JY.nd (cW (aa 1)) (cM U (xB U (aa 2) (aa 0)) (aa 1)))) aB)))
   aq)⟩
def Sf:=HD.1
def Je:=aK false AA Sf
abbrev BB:Stmt:=top 41
abbrev Ch:List Str:=["table","ring","part"]
abbrev BV:List Str:=["table","ring","part"]
theorem U8:FnScope Ch BV (ab BB):=bC
def A6:{B // ∀{P w K Z base} (T:Txt K Z) (A:DefAt K Z "can_be_handed" BB) (U:Callee P w K Z base "can_hand" Ah [] 3 false az Je) (Y:Callee P w K Z base "less" lU [] 1 false az gM) (L:Callee P w K Z base "has_worth" pP [] 2 false [Md.bw] kn),Callee P w K Z base "can_be_handed" BV [] 4 false cF (aK false Ch B)}:=⟨_,fun T A U Y L=>
 bL (m':=cF) A U8 fun f c A a s H g E d b=>(ai (bc (fm (aH L (af (bE (dZ (by rfl) T.b_tuple (ax (aa 2) ay))) aB)) (fm (aH Y (af (bE (l5 (by rfl) T.k_NOUGHT)) (af (aa 2) aB))) (gL (vO (aH Y (af (bE (aH U (af (aa 0) (af (aa 1) aB)))) (af (aa 2) aB))))))))
   aq)⟩
def Ku:=A6.1
def Kw:=aK false Ch Ku
abbrev z9:Stmt:=top 5
abbrev AC:List Str:=["value","bound"]
abbrev tD:List Str:=["value","bound"]
theorem TZ:FnScope AC tD (ab z9):=bC
def zP:{B // ∀{P w K U base} (T:Txt K U) (A:DefAt K U "is_below" z9) (L:Callee P w K U base "is_whole" nG [] 1 false [Md.bw] lE),Callee P w K U base "is_below" tD [] 2 false az (aK false AC B)}:=⟨_,fun T A L=>
 bL (m':=az) A TZ fun f a A Y s H g E b Z=>(ai (bc (fm (aH L (af (aa 0) aB)) (gL (Qr ot ng rN rF iB (aa 0) (aa 1)))))
   aq)⟩
def Jb:=zP.1
def lD:=aK false AC Jb
abbrev Br:Stmt:=top 6
abbrev BI:List Str:=["numbers","bound","ahead","place","number"]
abbrev BM:List Str:=["numbers","bound"]
theorem uC:FnScope BI BM (ab Br):=bC
abbrev nK:FS:=(al (dQ kE (gz (dR (cL (bx (ak (gv 4) (ak (gv 1) ag)) [] lD))) (bj (f2 (gv 4) (gv 2) jb))) (al (bZ kE (gv 3)) be) be) (al (putF kE 2 (gv 4) (fun _=>Res.ok (D.bl true))) be))
def tR:{B // ∀{P w K Y base} (T:Txt K Y) (A:DefAt K Y "first_wrong" Br) (L:Callee P w K Y base "is_below" tD [] 2 false az lD),Callee P w K Y base "first_wrong" BM [] 3 false az (aK false BI B)}:=⟨_,fun T A L=>
 bL (m':=kE) A uC fun f a A Z s H g E b U=>(ai (gF 2 uC.nd (by rfl) (ff rfl) Fe)
   (ai (F7 E_ rfl (NR (by rfl) T.b_enumerate (KW 0)) (hX rfl (cV (bM 3 uC.nd) (cV (bM 4 uC.nd) hW))) (ai (aG (SW.toQ (bF (d7 (dc (bE (aH L (af (aa 4) (af (aa 1) aB)))))) (fj (Dv U (aa 4) (aa 2))))) (ai (bc (v_ 3))
   aq)
   aq)
   (ai (jh 2 U rfl (by rfl) (by first|exact Or.inl rfl|grind|grind) (aa 4) bR)
   aq)))
   (ai (bc (bT (by rfl) T.b_len (ax (aa 0) ay)))
   aq)))⟩
def BD:=tR.1
def J8:=aK false BI BD
abbrev AV:Stmt:=top 7
abbrev Bi:List Str:=["numbers","bound"]
abbrev tX:List Str:=["numbers","bound"]
theorem Uu:FnScope Bi tX (ab AV):=bC
def IV:{B // ∀{P w K Y base} (T:Txt K Y) (A:DefAt K Y "are_unlike" AV) (L:Callee P w K Y base "first_wrong" BM [] 3 false az J8),Callee P w K Y base "are_unlike" tX [] 4 false az (aK false Bi B)}:=⟨_,fun T A L=>
 bL A Uu fun f c A Z s H g E b a=>have U:=b.units;(ai (bc (dM U (bE (aH L (af (aa 0) (af (aa 1) aB)))) (bE (bT (rfl) T.b_len (ax (aa 0) ay)))))
   aq)⟩
def TJ:=IV.1
def tZ:=aK false Bi TJ
abbrev Bs:Stmt:=top 13
abbrev BJ:List Str:=["hands"]
abbrev BN:List Str:=["hands"]
theorem UI:FnScope BJ BN (ab Bs):=bC
def Jj:{B // ∀{P w K U base} (T:Txt K U) (A:DefAt K U "ones_behind" Bs),Callee P w K U base "ones_behind" BN [] 1 false [Md.bw] (aK false BJ B)}:=⟨_,fun T A=>
 bL A UI fun f Z A L s H g E a Y=>(ai (bc (ls (bE (fJ (aa 0) (eu iB) d9)) (bE (fJ (aa 0) d9 (eu iB)))))
   aq)⟩
def Uz:=Jj.1
def J9:=aK false BJ Uz
abbrev p6:Stmt:=top 39
abbrev qc:List Str:=["wishes","table","ring","hands","things","steps"]
abbrev BX:List Str:=["wishes","table","ring"]
theorem nN:FnScope qc BX (ab p6):=bC
def tU:{B // ∀{P w K a base} (T:Txt K a) (A:DefAt K a "is_share_ring" p6) (Z:Callee P w K a base "is_below" tD [] 2 false az lD) (Y:Callee P w K a base "are_unlike" tX [] 4 false az tZ) (U:Callee P w K a base "ones_behind" BN [] 1 false [Md.bw] J9) (L:Callee P w K a base "hands_that_rise" uL [] 2 false dm p4),Callee P w K a base "is_share_ring" BX [] 5 false cF (aK false qc B)}:=⟨_,fun{P w K a base} T A Z Y U L=>
 bL (m':=[.bw,.bw,.bw,.ow,.ow,.sh]) A nN fun f d A b s H g E e c=>(ai (qp 3 ["hand","thing"] [] nN.nd (cW (aa 2)) (v_ 0))
   (ai (qp 4 ["hand","thing"] [] nN.nd (cW (aa 2)) (v_ 1))
   (ai (aG (SW.toQ (bF (d7 (dc (aa 2))) (bF (d7 (dc (bE (aH Y (af (aa 4) (af (bE (bT (by rfl) T.b_len (ax (aa 1) ay))) aB)))))) (fj (d7 (dc (bE (lS rfl (by rfl) T.b_all (ax (SO.toB (gT ["hand","table"] [1] nN.nd (cW (aa 3)) (aH Z (af (aa 0) (af (bE (bT (by rfl) T.b_len (ax (aa 1) ay))) aB))))) ay))))))))) (ai (bc bR)
   aq)
   aq)
   (ai (bf 5 nN.nd (SO.toE (Vy rfl (by rfl) T.b_list (by rfl) T.b_zip (ax (aa 3) (ax (aa 4) (ax (bE (aH U (af (aa 4) aB))) ay))))))
   (ai (bc (lS rfl (by rfl) T.b_all (ax (SO.toB (wY (X:=(dF fG P w K a base qc "is_share_ring" (ab p6) f d A b s H E).nox) (N':=["hand","thing","other","wishes","table"]) (nl:=3) (cap:=[0,1]) nN.nd rfl (pC (osc:=(ab p6)) (ON:=qc) rfl rfl (by decide+kernel)) (cW (aa 5)) (fun _ _ _ _ _ _=>(hX rfl (cV (bM 0 (show Ũ (["hand","thing","other","wishes","table"]:List Str)by decide+kernel)) (cV (bM 1 (show Ũ (["hand","thing","other","wishes","table"]:List Str)by decide+kernel)) (cV (bM 2 (show Ũ (["hand","thing","other","wishes","table"]:List Str)by decide+kernel)) hW))))) (wI (mi (ki (by decide)) (mi (ki (by decide)) (mi (ki (by decide)) zF)))) (fun _ _ _ _ _ _=>oN) (fun _ _ _ _ _ _=>(Dm c (aa 0) (bE (aH L (af (aa 3) (af (aa 4) (af (aa 1) (af (aa 2) aB)))))))))) ay)))
   aq)))))⟩
def Cb:=tU.1
def Ce:=aK false qc Cb
abbrev mh:Stmt:=nr (top 45) 1
abbrev Cf:List Str:=["self","wishes","told"]
abbrev BS:List Str:=["self","wishes","told"]
theorem UX:FnScope Cf BS (ab mh):=bC
def A4:{B // ∀{P w K b base} (T:Txt K b) (A:MethAt K "Handing" "shows" "Handing.shows" mh) (L:Callee P w K b base "is_share_ring" BX [] 5 false cF Ce) (Y:Callee P w K b base "is_table" pK [] 7 false [.bw,.sh] pJ) (U:Callee P w K b base "can_be_handed" BV [] 4 false cF Kw) (Z:fT K "ring" oK) (a:fT K "part" oJ),CalleeM P w K b base "shows" BS 8 (fun x=>x == "Handing") cj (aK false Cf B)}:=⟨_,fun T A L Y U Z a=>
 yR (k:=7) (m':=dB) A UX rfl (fun _ _ _ _ _ _ h j=>by obtain⟨o,n,m,rfl⟩:=q8 h j;kernel_rfl) fun f l A c s H g E e=>
 have i:=om e;have d:=e.units
 (ai (aG (SW.toQ (bF (d7 (dc (bE (aH Y (af (aa 1) (aR (v_ 2) aB)))))) (fj (d7 (dc (bE (aH L (af (aa 1) (af (aa 2) (af (bE (mV Z (aa 0))) aB)))))))))) (ai (bc bR)
   aq)
   aq)
   (ai (bc (aH U (af (aa 2) (af (bE (mV Z (aa 0))) (af (bE (mV a (aa 0))) aB)))))
   aq))⟩
def Ks:=A4.1
def uD:=aK false Cf Ks
abbrev BC:Stmt:=top 8
abbrev BR:List Str:=["numbers","bound"]
abbrev BW:List Str:=["numbers","bound"]
theorem U9:FnScope BR BW (ab BC):=bC
def A7:{B // ∀{P w K Y base} (T:Txt K Y) (A:DefAt K Y "has_each_once" BC) (L:Callee P w K Y base "are_unlike" tX [] 4 false az tZ),Callee P w K Y base "has_each_once" BW [] 5 false az (aK false BR B)}:=⟨_,fun T A L=>
 bL A U9 fun f c A Z s H g E b a=>have U:=b.units;(ai (bc (fm (dM U (bE (bT (by rfl) T.b_len (ax (aa 0) ay))) (aa 1)) (gL (aH L (af (aa 0) (af (aa 1) aB))))))
   aq)⟩
def Kv:=A7.1
def Cd:=aK false BR Kv
abbrev zO:Stmt:=top 29
abbrev zJ:List Str:=["part","dealing","many"]
abbrev zK:List Str:=["part","dealing","many"]
theorem SJ:FnScope zJ zK (ab zO):=bC
def zv:{B // ∀{P w K Z base} (T:Txt K Z) (A:DefAt K Z "is_part" zO) (L:Callee P w K Z base "has_each_once" BW [] 5 false az Cd) (Y:Callee P w K Z base "less" lU [] 1 false az gM) (U:Callee P w K Z base "has_worth" pP [] 2 false [Md.bw] kn),Callee P w K Z base "is_part" zK [] 6 false cF (aK false zJ B)}:=⟨_,fun T A L Y U=>
 bL (m':=cF) A SJ fun f c A a s H g E d b=>(ai (bc (fm (aH U (af (bE (dZ (by rfl) T.b_tuple (ax (aa 0) ay))) aB)) (fm (aH Y (af (bE (l5 (by rfl) T.k_NOUGHT)) (af (aa 0) aB))) (gL (aH L (af (aa 1) (af (aa 2) aB)))))))
   aq)⟩
def Iu:=zv.1
def zI:=aK false zJ Iu
abbrev Au:Stmt:=top 30
abbrev AE:List Str:=["parts","many"]
abbrev AI:List Str:=["parts","many"]
theorem A8:FnScope AE AI (ab Au):=bC
def zL:{B // ∀{P w K Y base} (T:Txt K Y) (A:DefAt K Y "are_parts" Au) (L:Callee P w K Y base "is_part" zK [] 6 false cF zI),Callee P w K Y base "are_parts" AI [] 7 false az (aK false AE B)}:=⟨_,fun T A L=>
 bL (m':=az) A A8 fun f c A Z s H g E b a=>have U:=b.units;(ai (aG (SW.toQ (bF (d7 (dc (aa 0))) (fj (jz (bE (bT (by rfl) T.b_len (ax (aa 0) ay))) (bE (bX (bE (dY (bE (gp (aa 1) iB)) (bE (gp (aa 1) iB)))) iB)))))) (ai (bc bR)
   aq)
   aq)
   (ai (aG (d7 (dc (bE (lS rfl (by rfl) T.b_all (ax (SO.toB (lL ["part","dealing","many"] [1] A8.nd (cW (aa 0)) (aH L (af (aa 0) (af (aa 1) (af (aa 2) aB)))))) ay))))) (ai (bc bR)
   aq)
   aq)
   (ai (bc (dM U (bE (ID rfl U (by rfl) T.b_len (by rfl) T.b_set (ax (SO.toB (lL ["part","dealing"] [] A8.nd (cW (aa 0)) (dZ (by rfl) T.b_tuple (ax (aa 1) ay)))) ay))) (bE (bT (by rfl) T.b_len (ax (aa 0) ay)))))
   aq)))⟩
def Jp:=zL.1
def Ju:=aK false AE Jp
abbrev zU:Stmt:=top 27
abbrev Af:List Str:=["parts","hand","thing"]
abbrev Aj:List Str:=["parts","hand","thing"]
theorem JZ:FnScope Af Aj (ab zU):=bC
def HF:{B // ∀{P w K Y base} (T:Txt K Y) (A:DefAt K Y "share_in" zU) (L:Callee P w K Y base "total" oY [] 4 false [Md.bw] lA),Callee P w K Y base "share_in" Aj [] 5 false cF (aK false Af B)}:=⟨_,fun T A L=>
 bL A JZ fun f c A Z s H g E b a=>have U:=b.units;(ai (bc (aH L (af (SO.toB (lL ["part","dealing","thing","hand"] [2,1] JZ.nd (cW (aa 0)) (v_ 0) (hq:=(oO (q_eq U (xB a (aa 1) (aa 3)) (aa 2)))))) aB)))
   aq)⟩
def Si:=HF.1
def tz:=aK false Af Si
abbrev yF:Stmt:=top 28
abbrev xR:List Str:=["parts","many","table","hand"]
abbrev xV:List Str:=["parts"]
theorem pw:FnScope xR xV (ab yF):=bC
abbrev RH:FS:=(al (dq "list" [.bw,.sh,.ow,.sh] 2 (ak (fC (ak (db 1 [0,3] (cZ cR (ak (gv 1) ag)) (aw 0) (fun _=>Res.ok true) (bx (ak (gv 1) (ak (gv 2) (ak (gv 0) ag))) [] tz)) ag) tupD) ag) appD) be)
def EX:{B // ∀{P w K Y base} (T:Txt K Y) (A:DefAt K Y "mixed" yF) (L:Callee P w K Y base "share_in" Aj [] 5 false cF tz),Callee P w K Y base "mixed" xV [] 6 false [Md.bw] (aK false xR B)}:=⟨_,fun T A L=>
 bL (m':=[.bw,.sh,.ow,.sh]) A pw fun f a A Z s H g E b U=>(ai (bf 1 pw.nd (bT (by rfl) T.b_len (ax (xB U (xB U (aa 0) iB) iB) ay)))
   (ai (gF 2 pw.nd (by rfl) (ff rfl) (dy aP))
   (ai (fI E_ rfl (eR (by rfl) T.b_range (ax (aa 1) ay)) (bM 3 pw.nd) (ai (iV 2 rfl J_ YI YJ jr jS (by rfl) (by first|exact Or.inl rfl|grind|grind) (au (dZ (by rfl) T.b_tuple (ax (SO.toB (gT ["thing","parts","hand"] [0,3] pw.nd (gj.toC (eR (by rfl) T.b_range (ax (aa 1) ay))) (aH L (af (aa 1) (af (aa 2) (af (aa 0) aB)))))) ay)) aP))
   aq))
   (ai (bc (dZ (by rfl) T.b_tuple (ax (aa 2) ay)))
   aq))))⟩
def N6:=EX.1
def Gx:=aK false xR N6
abbrev l7:Stmt:=nr (top 46) 1
abbrev Ci:List Str:=["self","wishes","told"]
abbrev Ck:List Str:=["self","wishes","told"]
theorem U1:FnScope Ci Ck (ab l7):=bC
def AO:{B // ∀{P w K a base} (T:Txt K a) (A:MethAt K "Parted" "shows" "Parted.shows" l7) (Z:Callee P w K a base "mixed" xV [] 6 false [Md.bw] Gx) (L:Callee P w K a base "are_parts" AI [] 7 false az Ju) (Y:Callee P w K a base "is_table" pK [] 7 false [.bw,.sh] pJ) (U:fT K "parts" oV),CalleeM P w K a base "shows" Ck 8 (fun x=>x == "Parted") cj (aK false Ci B)}:=⟨_,fun T A Z L Y U=>
 yR (k:=7) (m':=dB) A U1 rfl (fun _ _ _ _ _ _ e i=>by obtain⟨n,m,l,rfl⟩:=q8 e i;kernel_rfl) fun f j A c s H g E d=>
 have h:=om d;have b:=d.units
 (ai (bc (fm (aH Y (af (aa 1) (aR (v_ 2) aB))) (fm (aH L (af (bE (mV U (aa 0))) (af (bE (bT (by rfl) T.b_len (ax (aa 2) ay))) aB))) (gL (dM b (bE (aH Z (af (bE (mV U (aa 0))) aB))) (aa 2))))))
   aq)⟩
def Ki:=AO.1
def p7:=aK false Ci Ki
abbrev tm:List Str:=["self","wishes","told"]
abbrev i6:Str->Bool:=(fun nm=>(fun x:Str=>x == "Rising") nm || (fun nm=>(fun x:Str=>x == "Handing") nm || (fun x:Str=>x == "Parted") nm) nm)
abbrev jZ:List D->Res D:=(uZ (fun x:Str=>x == "Rising") p9 (uZ (fun x:Str=>x == "Handing") uD p7))
theorem N1(U:CalleeM P w K mg base "shows" Cm 8 (fun x=>x == "Rising") cj p9)(L:CalleeM P w K mg base "shows" BS 8 (fun x=>x == "Handing") cj uD)(Y:CalleeM P w K mg base "shows" Ck 8 (fun x=>x == "Parted") cj p7):CalleeM P w K mg base "shows" tm 8 i6 cj jZ:=((U.mono (by decide)).or ((L.mono (by decide)).or (by omega)))
abbrev AR:Stmt:=top 67
abbrev Be:List Str:=["_law_papers","_law_wishes_here","_law_table","_law_dues","_law_turn","_law_paper","_law_due","_law_found"]
abbrev Bm:List Str:=["_law_papers","_law_wishes_here","_law_table","_law_dues"]
theorem pV:FnScope Be Bm (ab AR):=bC
abbrev Kk:FS:=(al (aY jA 7 (lR i6 "shows" (gv 5) (ak (gv 1) (ak (gv 2) ag)) jZ)) (al (dQ jA (gz (dR (cL (f1 (gv 5) (qZ lV)))) (gz (dR (cL (f1 (gv 7) (jG "bool")))) (bj (f2 (gv 7) (gv 6) neD)))) (al (bZ jA (fun _=>Res.ok (D.bl false))) be) be) be))
abbrev UM:FS:=(al (iU jA (gY (gv 0) (gv 3)) (cE (ba (aw 5) (ba (aw 6) cD))) Kk) be)
def IU:{B // ∀{P w K a base} (T:Txt K a) (A:DefAt K a "_law_asked" AR) (L:CalleeM P w K a base "shows" tm 8 i6 cj jZ) {U:Addr} (Y:a "Paper" = some (.ref U)) (Z:kY K (.ref U) lV),Callee P w K a base "_law_asked" Bm [] 9 false [.sh,.sh,.sh,.sh] (aK false Be B)}:=⟨_,fun{P w K a base} T A L {U} Y Z=>
 bL (m':=jA) A pV fun f h A c s H g E d e=>have b:=d.units;(ai (fI E_ rfl (eR (by rfl) T.b_range (ax iB ay)) (bM 4 pV.nd) (ai (fI E_ rfl (vB (by rfl) T.b_zip (v_ 0) (v_ 3)) (hX rfl (cV (bM 5 pV.nd) (cV (bM 6 pV.nd) hW))) (ai (bf 7 pV.nd (xH L (d.mono (by decide)) (v_ 5) (aR (v_ 1) (aR (v_ 2) aB))))
   (ai (aG (SW.toQ (bF (d7 (dc (bE (F8 Y Z (by rfl) (by rfl) T.b_isinstance (aa 5))))) (bF (d7 (dc (bE (lh "bool" "bool" rfl (sG _) (by rfl) T.b_isinstance (by rfl) T.b_bool (aa 7))))) (fj (fN b (aa 7) (aa 6)))))) (ai (bc bR)
   aq)
   aq)
   aq)))
   aq))
   (ai (bc bR)
   aq))⟩
def TH:=IU.1
def Bb:=aK false Be TH
abbrev B7:Stmt:=top 51
abbrev CF:List Str:=["_law_n","_law_found","_law_one","_law_longer","_law_row_here","_law_at"]
abbrev CJ:List Str:=["_law_n"]
theorem mr:FnScope CF CJ (ab B7):=bC
def J4:{B // ∀{P w K U base} (T:Txt K U) (A:DefAt K U "_law_all_orders" B7),Callee P w K U base "_law_all_orders" CJ [] 1 false [Md.bw] (aK false CF B)}:=⟨_,fun T A=>
 bL (m':=[.bw,.sh,.sh,.sh,.sh,.sh]) A mr fun f a A L s H g E Z Y=>(ai (bf 1 mr.nd (SO.toE (dy (au (SO.toE (dy aP)) aP))))
   (ai (fI E_ rfl (eR (by rfl) T.b_range (ax (aa 0) ay)) (bM 2 mr.nd) (ai (gF 3 mr.nd (by rfl) (ff rfl) (dy aP))
   (ai (fI E_ rfl (qY (v_ 1)) (bM 4 mr.nd) (ai (fI E_ rfl (eR (by rfl) T.b_range (ax (bE (bX (bE (bT (by rfl) T.b_len (ax (aa 4) ay))) iB)) ay)) (bM 5 mr.nd) (ai (iV 3 rfl J_ YI YJ jr jS (by rfl) (by first|exact Or.inl rfl|grind|grind) (au (ls (bE (ls (bE (fJ (aa 4) d9 (eu (aa 5)))) (SO.toB (dy (au (v_ 2) aP))))) (bE (fJ (aa 4) (eu (aa 5)) d9))) aP))
   aq))
   aq))
   (ai (lg 3 rfl (bf 1 mr.nd (v_ 3)))
   aq))))
   (ai (bc (SO.toE (RI Z (by rfl) T.b_sorted (ax (aa 1) ay))))
   aq)))⟩
def U7:=J4.1
def uK:=aK false CF U7
abbrev B8:Stmt:=top 68
abbrev CG:List Str:=["_law_script","_law_cell_here","_law_n","_law_orders","_law_start","_law_many","_law_dealings","_law_weights","_law_parts_here","_law_found"]
abbrev CK:List Str:=["_law_script"]
theorem jt:FnScope CG CK (ab B8):=bC
def Bu:{B // ∀{P w K d base} (T:Txt K d) (A:DefAt K d "_law_bound_well" B8) (U:Callee P w K d base "_law_cell" jY [] 1 false az gH) (L:Callee P w K d base "_law_all_orders" CJ [] 1 false [Md.bw] uK) (b:Callee P w K d base "_law_low" nE [] 2 false cj lC) (a:CalleeN P w K d base "Parted" "Parted" pR [] 8 [Md.bw] jq) (Z:Callee P w K d base "_law_mixed" nS [] 4 false az nH) (Y:Callee P w K d base "_law_wishes" pU [] 2 false dm tV) (c:CalleeM P w K d base "shows" tm 8 i6 cj jZ),Callee P w K d base "_law_bound_well" CK [] 10 false [Md.bw] (aK false CG B)}:=⟨_,fun T A U L b a Z Y c=>
 bL (m':=qA) A jt fun f k A h s H g E i j=>have e:=i.units;(ai (bf 1 jt.nd (aH U (af (aa 0) (af iB aB))))
   (ai (bf 2 jt.nd (bX iB (bE (bz (aa 1) iB))))
   (ai (bf 3 jt.nd (aH L (af (aa 2) aB)))
   (ai (bf 4 jt.nd (bz (bE (bY (aa 1) iB)) (bE (bT (by rfl) T.b_len (ax (aa 3) ay)))))
   (ai (bf 5 jt.nd (bX (bE (bX (bE (dY (bE (gp (aa 2) iB)) (bE (gp (aa 2) iB)))) iB)) (bE (bz (bE (bY (aa 1) iB)) iB))))
   (ai (bf 6 jt.nd (fJ (bE (ls (bE (fJ (aa 3) (eu (aa 4)) d9)) (bE (fJ (aa 3) d9 (eu (aa 4)))))) d9 (eu (aa 5))))
   (ai (bf 7 jt.nd (SO.toE (gT ["_law_k","_law_script"] [0] jt.nd (gj.toC (eR (by rfl) T.b_range (ax (aa 5) ay))) (bX iB (bE (bz (bE (aH U (af (aa 1) (af (bE (bX iB (aa 0))) aB)))) iB))))))
   (ai (qp 8 ["_law_weight","_law_got","_law_weights"] [7] jt.nd (gj.toC (vB (by rfl) T.b_zip (v_ 7) (v_ 6))) (bD (au (aH b (aR (v_ 0) (aR (EE rfl (by rfl) T.b_sum (ax (aa 2) ay)) aB))) (au (dZ (by rfl) T.b_tuple (ax (aa 1) ay)) aP))))
   (ai (bf 9 jt.nd (xH c (i.mono (by decide)) (lu (dds:=[]) a (i.mono (by decide)) (af (bE (dZ (by rfl) T.b_tuple (ax (aa 8) ay))) aB)) (aR (aH Y (af (aa 0) (af iB (af (aa 2) (af (aa 2) aB))))) (aR (aH Z (af (aa 8) (af (aa 2) aB))) aB))))
   (ai (bc (fm (lh "bool" "bool" rfl (sG _) (by rfl) T.b_isinstance (by rfl) T.b_bool (aa 9)) (gL (dM e (aa 9) (bE (dM e (aa 5) (bE (bX (bE (dY (bE (gp (aa 2) iB)) (bE (gp (aa 2) iB)))) iB))))))))
   aq))))))))))⟩
def Kz:=Bu.1
def KB:=aK false CG Kz
abbrev B0:Stmt:=top 69
abbrev Cs:List Str:=["_law_script","_law_cell_here","_law_n","_law_one","_law_other","_law_table","_law_top","_law_bottom","_law_some","_law_found"]
abbrev Cw:List Str:=["_law_script"]
theorem i8:FnScope Cs Cw (ab B0):=bC
def B5:{B // ∀{P w K e base} (T:Txt K e) (A:DefAt K e "_law_forged_well" B0) (Y:Callee P w K e base "_law_cell" jY [] 1 false az gH) (c:Callee P w K e base "_law_row" nF [] 1 false [.sh,.bw] jX) (a:Callee P w K e base "_law_mixed" nS [] 4 false az nH) (L:Callee P w K e base "_law_low" nE [] 2 false cj lC) (b:CalleeN P w K e base "Parted" "Parted" pR [] 8 [Md.bw] jq) (Z:Callee P w K e base "_law_wishes" pU [] 2 false dm tV) (d:CalleeM P w K e base "shows" tm 8 i6 cj jZ) (U:Callee P w K e base "_law_are_parts" uJ [] 5 false az pZ),Callee P w K e base "_law_forged_well" Cw [] 10 false [Md.bw] (aK false Cs B)}:=⟨_,fun T A Y c a L b Z d U=>
 bL (m':=qA) A i8 fun f l A j s H g E k i=>have h:=k.units;(ai (bf 1 i8.nd (aH Y (af (aa 0) (af iB aB))))
   (ai (bf 2 i8.nd (bX iB (bE (bz (aa 1) iB))))
   (ai (bf 3 i8.nd (SO.toE (wP (by rfl) T.b_list (ax (bE (aH c (aR (aH Y (af (aa 0) (af iB aB))) (af (aa 2) aB)))) ay))))
   (ai (bf 4 i8.nd (bX (SO.toB (dy (au (cM i (aa 3) iB) (au (cM i (aa 3) iB) (au (cM i (aa 3) iB) (au (cM i (aa 3) iB) aP)))))) (bE (fJ (aa 3) (eu iB) d9))))
   (ai (bf 5 i8.nd (aH a (af (SO.toB (dy (au (bD (au (bD (au cO (au cO aP))) (au (v_ 3) aP))) (au (bD (au (bD (au cO (au cO aP))) (au (v_ 4) aP))) aP)))) (af (aa 2) aB))))
   (ai (bf 6 i8.nd (gp (bE (bz (bE (bY (aa 1) iB)) iB)) iB))
   (ai (bf 7 i8.nd (bX iB (bE (dY iB (bE (bz (bE (bY (aa 1) iB)) iB))))))
   (ai (gF 8 i8.nd (by rfl) (ff rfl) (dy (au (bD (au (aH L (aR (bX (bE (bY (aa 7) iB)) (aa 6)) (aR (v_ 7) aB))) (au (dZ (by rfl) T.b_tuple (ax (aa 3) ay)) aP))) (au (bD (au (aH L (aR (bX (bE (bY (aa 7) iB)) (aa 6)) (aR (v_ 7) aB))) (au (dZ (by rfl) T.b_tuple (ax (aa 4) ay)) aP))) aP))))
   (ai (iV 8 rfl J_ YI YJ jr jS (by rfl) (gJ rfl) (au (bD (au (aH L (aR (gp iB (aa 6)) (aR (v_ 7) aB))) (au (dZ (by rfl) T.b_tuple (ax (bE (ls (bE (fJ (aa 3) d9 (eu iB))) (bE (fJ (aa 4) (eu iB) d9)))) ay)) aP))) aP))
   (ai (iV 8 rfl J_ YI YJ jr jS (by rfl) (gJ rfl) (au (bD (au (aH L (aR (gp iB (aa 6)) (aR (v_ 7) aB))) (au (dZ (by rfl) T.b_tuple (ax (bE (ls (bE (fJ (aa 4) d9 (eu iB))) (bE (fJ (aa 3) (eu iB) d9)))) ay)) aP))) aP))
   (ai (aG (q_eq h (bE (bz (bE (bY (aa 1) iB)) iB)) iB) (ai (gF 8 i8.nd (by rfl) (ff rfl) (dy (au (bD (au (bD (au cO (au cO aP))) (au (dZ (by rfl) T.b_tuple (ax (bE (ls (bE (fJ (aa 4) d9 (eu iB))) (bE (fJ (aa 3) (eu iB) d9)))) ay)) aP))) (au (bD (au (bD (au cO (au cO aP))) (au (dZ (by rfl) T.b_tuple (ax (bE (ls (bE (fJ (aa 3) d9 (eu iB))) (bE (fJ (aa 4) (eu iB) d9)))) ay)) aP))) aP))))
   aq)
   aq)
   (ai (aG (q_eq h (bE (bz (bE (bY (aa 1) iB)) iB)) iB) (ai (gF 8 i8.nd (by rfl) (ff rfl) (dy (au (bD (au (bD (au cO (au cO aP))) (au (dZ (by rfl) T.b_tuple (ax (bE (bX (SO.toB (dy (au (gp (xB i (aa 3) iB) (bE (dY (aa 2) (bE (bz (bE (bY (aa 1) iB)) iB))))) aP))) (bE (fJ (aa 3) (eu iB) d9)))) ay)) aP))) (au (bD (au (bD (au cO (au cO aP))) (au (dZ (by rfl) T.b_tuple (ax (aa 4) ay)) aP))) aP))))
   aq)
   aq)
   (ai (bf 9 i8.nd (xH d (k.mono (by decide)) (lu (dds:=[]) b (k.mono (by decide)) (af (aa 8) aB)) (aR (aH Z (af (aa 0) (af iB (af (aa 2) (af (aa 2) aB))))) (aR (v_ 5) aB))))
   (ai (bc (fm (lh "bool" "bool" rfl (sG _) (by rfl) T.b_isinstance (by rfl) T.b_bool (aa 9)) (gL (dM h (aa 9) (bE (aH U (af (aa 5) (af (aa 8) aB))))))))
   aq))))))))))))))⟩
def CM:=B5.1
def KN:=aK false Cs CM
abbrev wD:Stmt:=top 70
abbrev vF:List Str:=["_law_script","_law_cell_here","_law_n","_law_wishes_here","_law_parts_here","_law_table","_law_numbers","_law_ring","_law_part","_law_some","_law_dues","_law_papers"]
abbrev Ei:List Str:=["_law_script"]
theorem ib:FnScope vF Ei (ab wD):=bC
def uV:{B // ∀{P w K r base} (T:Txt K r) {y:Addr} {x:ZB} (A:Fun K "law" "law" wD y x) (o:Callee P w K r base "_law_cell" jY [] 1 false az gH) (j:Callee P w K r base "_law_wishes" pU [] 2 false dm tV) (l:Callee P w K r base "_law_parts" A1 [] 3 false dm Kh) (m:Callee P w K r base "_law_mixed" nS [] 4 false az nH) (L:Callee P w K r base "_law_numbers_made" C1 [] 3 false cF KJ) (b:Callee P w K r base "_law_ring_made" CT [] 3 false cF KG) (Z:Callee P w K r base "_law_parts_made" CL [] 2 false [.bw,.bw,.sh] KD) (f:Callee P w K r base "_law_can_hand" BU [] 2 false dm Cc) (Y:Callee P w K r base "_law_are_heights" Cv [] 1 false [.sh,.sh,.bw] Co) (c:Callee P w K r base "_law_are_parts" uJ [] 5 false az pZ) (i:CalleeN P w K r base "Parted" "Parted" pR [] 8 [Md.bw] jq) (d:CalleeN P w K r base "Handing" "Handing" A2 [] 8 az nR) (h:CalleeN P w K r base "Rising" "Rising" AK [] 8 [Md.bw] nJ) (e:Callee P w K r base "_law_asked" Bm [] 9 false [.sh,.sh,.sh,.sh] Bb) (U:Callee P w K r base "_law_forged_well" Cw [] 10 false [Md.bw] KN) (a:Callee P w K r base "_law_bound_well" CK [] 10 false [Md.bw] KB) {n:Addr} (p:r "Handing" = some (.ref n)) (q:kY K (.ref n) o6),FnOk P w K r base fG 11 y x Ei (ku K false [Md.sh] (aK false vF B))}:=⟨_,fun{P w K r base} T {y} {x} A o j l m L b Z f Y c i d h e U a {n} p q=>
 wG (k:=10) (m':=[.sh,.sh,.sh,.sh,.sh,.sh,.sh,.sh,.sh,.sh,.sh,.sh]) A ib rfl fun C A u s H g E t=>
 have v:=om t;have z:=t.units
 (ai (bf 1 ib.nd (aH o (af (aa 0) (af iB aB))))
   (ai (bf 2 ib.nd (bX iB (bE (bz (aa 1) iB))))
   (ai (bf 3 ib.nd (aH j (af (aa 0) (af iB (af (aa 2) (af (aa 2) aB))))))
   (ai (bf 4 ib.nd (aH l (af (aa 0) (af iB (af (aa 2) (af (bE (bX iB (bE (bz (bE (bY (aa 1) iB)) iB)))) aB))))))
   (ai (bf 5 ib.nd (aH m (af (aa 4) (af (aa 2) aB))))
   (ai (bf 6 ib.nd (aH L (af (aa 0) (af (aa 3) (af (aa 5) aB)))))
   (ai (rq (aH b (af (aa 0) (af (aa 3) (af (aa 5) aB)))) (hX rfl (cV (bM 7 ib.nd) (cV (bM 8 ib.nd) hW))))
   (ai (bf 9 ib.nd (aH Z (af (aa 0) (af (aa 4) (aR (v_ 2) aB)))))
   (ai (gF 10 ib.nd (by rfl) (ff rfl) (dy (au (aH Y (aR (v_ 3) (aR (v_ 5) (af (aa 6) aB)))) (au (aH f (af (aa 3) (af (aa 5) (af (aa 7) (af (aa 8) aB))))) aP))))
   (ai (iV 10 rfl J_ YI YJ jr jS (by rfl) (gJ rfl) (au (aH c (af (aa 5) (af (aa 9) aB))) aP))
   (ai (bf 11 ib.nd (SO.toE (dy (au (lu (dds:=[]) h (t.mono (by decide)) (af (bE (dZ (by rfl) T.b_tuple (ax (aa 6) ay))) aB)) (au (lu (dds:=[]) d (t.mono (by decide)) (af (bE (dZ (by rfl) T.b_tuple (ax (aa 7) ay))) (af (aa 8) aB))) (au (lu (dds:=[]) i (t.mono (by decide)) (af (bE (dZ (by rfl) T.b_tuple (ax (aa 9) ay))) aB)) aP))))))
   (ai (lg 10 rfl (aG (SW.toQ (bF (d7 (dc (bE (F8 p q (by rfl) (by rfl) T.b_isinstance (xB v (aa 11) iB))))) (fj (d7 (dc (bE (aH e (aR (v_ 11) (aR (v_ 3) (aR (v_ 5) (aR (v_ 10) aB))))))))))) (ai (bc bR)
   aq)
   aq))
   (ai (bf 11 ib.nd (SO.toE (dy (au (lu (dds:=[]) h (t.mono (by decide)) (af (aa 6) aB)) (au (lu (dds:=[]) d (t.mono (by decide)) (af (aa 7) (af (aa 8) aB))) (au (lu (dds:=[]) i (t.mono (by decide)) (af (SO.toB (lL ["_law_one","_law_got"] [] ib.nd (cW (aa 9)) (bD (au (v_ 0) (au (SO.toE (wP (by rfl) T.b_list (ax (aa 1) ay))) aP))))) aB)) aP))))))
   (ai (aG (d7 (dc (bE (aH e (aR (v_ 11) (aR (v_ 3) (aR (v_ 5) (aR (v_ 10) aB)))))))) (ai (bc bR)
   aq)
   aq)
   (ai (bc (fm (aH a (af (aa 0) aB)) (gL (aH U (af (aa 0) aB)))))
   aq)))))))))))))))⟩
def Ef:=uV.1
def uW:=aK false vF Ef
end Law
namespace Law
open PySem L2 DL
abbrev nD(k:Nat):D:=.int (k:Int)
abbrev LN(l:List Nat):D:=.lst (l.map nD)
abbrev TN(l:List Nat):D:=.tup (l.map nD)
abbrev WD(rows:List (List Nat)):D:=.tup (rows.map TN)
theorem mz(h:ds.length<=1000):sz ds=some ds:=Ls (Y1 h (by decide))
@[simp] theorem addA_int(a b:Int):addA (.int a) (.int b)=some (.int (a+b)):=rfl
theorem jn(h:hU a b):bK (.int a) (.int b)=some (.int (a*b)):=by rw[bK,intsC_int,Q_e h]
theorem yS(h:0<b):bn (.int a) (.int b)=some (.int (a%b)):=by rw[bn,intsC_int,Q_e h]
theorem zE(h:iS a b):fH (.int a) (.int b)=some (.int (a/b)):=by rw[fH,intsC_int,Q_e h]
theorem ao(h:U r=.nx r'):al U L r=L r':=by unfold al;rw[h]
theorem aE(h:L r=.rt d):al L U r=.rt d:=by unfold al;rw[h]
theorem aM(h:f r=.ok d):aY m i f r=.nx (r.set i (some d)):=by unfold aY;rw[h];rfl
theorem a9(h:f r=.ok d):bZ m f r=.rt d:=by unfold bZ;rw[h];rfl
theorem EB(h:p r=.ok b):dQ m p U L r=if b=true then U r else L r:=by unfold dQ;rw[h];rfl
theorem aI(h:p r=.ok true):dQ m p L U r=L r:=by rw[EB h,Q_e rfl]
theorem aJ(h:p r=.ok false):dQ m p U L r=L r:=by rw[EB h,Q_f y_]
theorem cz(h:fl r=.ok ds)(L:ds.length<=1000):ie fl r=.ok (.tup ds):=by unfold ie;rw[h,bind_ok,mz L];rfl
theorem eN(h:fl r=.ok ds)(L:ds.length<=1000):jE fl r=.ok (.lst ds):=by unfold jE;rw[h,bind_ok,mz L];rfl
theorem kl(h:ds.length<=1000):appD (.lst ds) [d]=some (.lst (ds++[d])):=by show(if ds.length<sizeLine then some _ else none)=_;rw[Q_e (by rw[O_];omega)]
theorem aD(Y:fl r=.ok L)(U:F (L++dds)=.ok d):bx fl dds F r=.ok d:=by unfold bx;rw[Y,bind_ok,U];rfl
theorem fU(U:f r=.ok a)(L:k a=some d):f1 f k r=.ok d:=by unfold f1;rw[U,bind_ok,L];rfl
theorem aj(Y:f r=.ok a)(U:f' r=.ok b)(L:k a b=some d):f2 f f' k r=.ok d:=by unfold f2;rw[Y,bind_ok,U,bind_ok,L];rfl
theorem aS(U:fl r=.ok ds)(L:k ds=some d):fC fl k r=.ok d:=by unfold fC;rw[U,bind_ok,L];rfl
theorem ae(U:f r=.ok d)(L:fl r=.ok ds):ak f fl r=.ok (d::ds):=by unfold ak;rw[U,bind_ok,L];rfl
theorem ah:ag r=.ok []:=rfl
theorem bW(h:f r=.ok (.bl b)):bj f r=.ok b:=by unfold bj;rw[h];rfl
theorem bU(h:f r=.ok d)(L:kt d=some b):cL f r=.ok b:=by unfold cL;rw[h,bind_ok,L];rfl
theorem cp(h:p r=.ok b):dR p r=.ok (! b):=by unfold dR;rw[h];rfl
theorem rh(h:p r=.ok true):fR p q r=q r:=by unfold fR;rw[h];rfl
theorem vH(h:p r=.ok false):fR p q r=.ok false:=by unfold fR;rw[h];rfl
theorem cG(h:p r=.ok true):gz p q r=.ok true:=by unfold gz;rw[h];rfl
theorem aQ(h:p r=.ok false):gz p q r=q r:=by unfold gz;rw[h];rfl
theorem fB(h:f r=.ok (.bl true)):gO f f' r=f' r:=by unfold gO;rw[h];rfl
theorem lv(h:f r=.ok (.bl false)):gO f f' r=.ok (.bl false):=by unfold gO;rw[h];rfl
theorem G6(h:f r=.ok (.bl b)):mw f r=.ok (.bl (! b)):=by unfold mw;rw[h];rfl
theorem dg(h:fi r=.ok ds):iU m fi ft b r=aZ ft b ds r:=by unfold iU;rw[h];rfl
theorem eQ(h:f r=.ok d)(L:bQ d=some ds):aV bQ f r=.ok ds:=by unfold aV;rw[h,bind_ok,L];rfl
theorem fq:aZ ft b [] r=.nx r:=by rfl
theorem dL(U:ft d r=some r1)(L:b r1=.nx r'):aZ ft b (d::ds) r=aZ ft b ds r':=by
 conv=>lhs;unfold aZ
 simp only[U,L]
theorem wH(U:ft d r=some r1)(L:b r1=.rt v):aZ ft b (d::ds) r=.rt v:=by
 conv=>lhs;unfold aZ
 simp only[U,L]
theorem sr(h:p r=.ok false):fK m p b (n+1) r=.nx r:=by unfold fK;rw[h];rfl
theorem su(h:p r=.ok true)(L:b r=.nx r'):fK m p b (n+1) r=fK m p b n r':=by
 conv=>lhs;unfold fK
 rw[h,onE_ok,Q_e rfl,L]
theorem iw(a:r[i]? = some (some d))(Z:qg T d=true)(Y:fl r=.ok ds)(U:L d ds=some d'):dq T m i fl L r=.nx (r.set i (some d')):=by unfold dq;rw[a];simp only[Z,Q_o,Y,onE_ok,U]
theorem jk(b:r[i]? = some (some d))(a:L r=.ok v)(Z:U r=.ok k)(Y:eB d k v=some d'):DL.putF m i U L r=.nx (r.set i (some d')):=by unfold DL.putF;rw[a,onE_ok];simp only[b,Z,onE_ok,Y]
theorem ND(e:Y r=.ok x)(c:U r=.ok y)(b:k x y=some (.bl true))(a:L r=.ok w)(Z:k' y w=some d):jj Y U L k k' r=.ok d:=by unfold jj;rw[e,bind_ok,c,bind_ok,b,opt_some,bind_ok];rw[a,bind_ok,Z];rfl
theorem Rz:hV ft q fe L []=.ok []:=by rfl
theorem IF{U:Type}(e:U->D)(L:U->Bool)(g:U->D):∀(l:List U),(∀a∈l,∃r1,ft (e a) Y=some r1/\q r1=.ok (L a)/\(L a=true->fe r1=.ok (g a)))->hV ft q fe Y (l.map e)=.ok ((l.filter L).map g)
|[],_=>Rz
|a::l,h=>by
  obtain⟨r1,i,f,d⟩:=h a m_;have Z:=IF e L g l fun b c=>h b (k_ _ c);rw[Yx]
  conv=>lhs;unfold hV
  rw[i,opt_some,bind_ok,f,bind_ok];cases k:L a with
 |true=>rw[Q_e rfl,d k,bind_ok,Z,bind_ok,ţ,Q_e k];rfl
 |false=>simp_all
theorem l0{r:am}{U:Type}{l:List U}(e:U->D)(L:U->Bool)(g:U->D)(Z:fi r=.ok (l.map e))(Y:l.length<=1000)(h:∀a∈l,∃r1,ft (e a) (bO nl cap r)=some r1/\q r1=.ok (L a)/\(L a=true->fe r1=.ok (g a))):db nl cap fi ft q fe r=.ok (.lst ((l.filter L).map g)):=by unfold db;rw[Z,bind_ok,mz (by simpa using Y),opt_some,bind_ok,IF e L g l h,noXL_ok,bind_ok]
theorem lQ(a b:Nat):ltI (nD a) (nD b)=some (.bl (decide (a<b))):=by show some _=_;simp
theorem qX(a b:Nat):jd (nD a) (nD b)=some (.bl (decide (b<a))):=by show some _=_;simp
theorem jR(a b:Nat):eqD (nD a) (nD b)=some (.bl (decide (a=b))):=by
 unfold eqD;rw[eqB_int];show some (D.bl ((a:Int)==(b:Int)))=_;have:((a:Int)==(b:Int))=decide (a=b):=by rw[YG,beq_iff_eq,Q_i];exact Ď
 rw[this]
theorem nc(a b:Nat):neD (nD a) (nD b)=some (.bl (! decide (a=b))):=by
 unfold neD;rw[eqB_int];show some _=_;have:((a)==(b:Int))=decide (a=b):=by grind
 rw[this]
theorem cU{B:FS}(h:B (bP n ds)=.rt d):cX false (B (bP n ds))=.ok d:=by rw[h];rfl
abbrev kI(k:Nat):aU:=Sum.inl (k:Int)
theorem MJ(L:List (Nat×D))(k:Nat):fQ (L.map fun p=>(kI p.1,p.2)) (kI k)=decide (k∈L.map (·.1)):=by
 unfold fQ;rw[Ĳ,YG,ę,Q_i,List.mem_map]
 grind
theorem QS(L:List (Nat×D))(k:Nat)(d:D)(h:k∉L.map (·.1)):eZ (L.map fun p=>(kI p.1,p.2)) (kI k) d=(L++[(k,d)]).map fun p=>(kI p.1,p.2):=by unfold eZ;have e:((L.map fun p=>(kI p.1,p.2)).any fun U=>decide (U.1=kI k))=decide (k∈L.map (·.1)):=MJ L k;rw[e,Q_c h,Q_f y_,M_];rfl
@[simp] theorem e_skip(r:am):be r=.nx r:=rfl
@[simp] theorem e_tupL(ds:List D):tupD [.lst ds]=some (.tup ds):=rfl
theorem hZ(h:ds[i]? = some d):aF (.tup ds) (nD i)=some d:=by have L:i<ds.length:=(h_.mp h).1;show gK ds (i:Int)=some d;unfold gK iI;rw[Q_e (Qcb i),Q_e (by omega)];simpa using h
theorem dX(h:ds[i]? = some d):aF (.lst ds) (nD i)=some d:=by have L:i<ds.length:=(h_.mp h).1;show gK ds (i:Int)=some d;unfold gK iI;rw[Q_e (Qcb i),Q_e (by omega)];simpa using h
@[simp] theorem ixA_L0(d:D)(ds:List D):aF (.lst (d::ds)) (.int 0)=some d:=dX rfl
theorem Vp(h:cf L (kI k)=some d):aF (.dic L) (nD k)=some d:=h
theorem qJ(l:List Nat)(k:Nat):(l.map nD).any (fun y=>gZ y (nD k))=decide (k∈l):=by
 rw[Ĳ,YG,ę,Q_i];constructor
 .rintro⟨x,h1,h2⟩
  have:(((x))==(k:Int))=true:=h2
  grind
 .intro h;exact⟨k,h,by show(((k):Int)==(k))=true;simp⟩
theorem qU(l:List Nat):(l.map nD).all cN=true:=by rw[Yy];intro x L;obtain⟨k,_,rfl⟩:=F_.mp L;rfl
theorem Vn(l:List Nat)(k:Nat):jb (nD k) (LN l)=some (.bl (decide (k∈l))):=by show(if cN _=true/\(l.map nD).all cN=true then some _ else none).map D.bl=_;rw[Q_e ⟨rfl,qU l⟩,qJ];rfl
theorem L7(l:List Nat)(k:Nat):iH (nD k) (LN l)=some (.bl (! decide (k∈l))):=by show(if cN _=true/\(l.map nD).all cN=true then some _ else none).map _=_;rw[Q_e ⟨rfl,qU l⟩,qJ];rfl
theorem sI{L:Type}(f:L->D)(l:List L):lenD [.tup (l.map f)]=some (nD l.length):=by show some _=_;rw[b_]
theorem Io{L:Type}(f:L->D)(l:List L):lenD [.lst (l.map f)]=some (nD l.length):=by show some _=_;rw[b_]
theorem F5(n:Nat):dO 0 n=(d_ n).map nD:=by unfold dO;simp_all
theorem P5(j:Int):lP [.int j]=if-(2^62)<=j/\j<2^62/\j.toNat<=sizeLine then some (.lst (dO 0 j.toNat))else none:=rfl
theorem GS(h:n<=1000):lP [nD n]=some (LN (d_ n)):=by
 have L:(n:Int).toNat<=sizeLine:=by rw[W_,O_];omega
 rw[P5,Q_e (by grind),W_,F5]
theorem OE(j:Int):cR [.int j]=if-(2^62)<=j/\j<2^62 then some (dO 0 j.toNat)else none:=rfl
theorem fW(h:n<=1000):cR [nD n]=some ((d_ n).map nD):=by rw[OE,Q_e ⟨by omega,by omega⟩,W_,F5]
theorem fX(Y:fl r=.ok ds)(U:k ds=some L):cZ k fl r=.ok L:=by unfold cZ;rw[Y,bind_ok,U];rfl
theorem Mu{a b:Nat}(h:kI a=kI b):a=b:=Ď.mp (Sum.inl.inj h)
theorem II{L:Type}(l:List L):l.filter (fun _=>true)=l:=List.filter_eq_self.mpr fun _ _=>rfl
def Wr(rows:List (List Nat))(h:Nat):List Nat:=(rows[h]?).getD []
theorem Ni(L:h<rows.length):(rows.map TN)[h]? = some (TN (Wr rows h)):=by rw[l_];unfold Wr;rw[g_ L];rfl
theorem iu(h:0<b):bn (nD a) (nD b)=some (nD (a%b)):=by simp_all
theorem NL(h:0<b)(L:b<1000):fH (nD a) (nD b)=some (nD (a/b)):=by
 rw[zE (⟨by omega,by omega⟩)]
 grind
theorem im(a b:Nat):addA (nD a) (nD b)=some (nD (a+b)):=by simp_all
section
variable{f f':FE}{r:am}
theorem m7(h:∃i:Int,f r=.ok (.int i))(h':f' r=.ok (.int b))(U:0<b):∃c:Nat,f2 f f' bn r=.ok (nD c):=by obtain⟨i,L⟩:=h;refine⟨(i%b).toNat,aj L h' ?_⟩;rw[yS U];show some _=some (D.int _);rw[Ĩ (Qdh _ (by omega))]
theorem K3(h:∃c:Nat,f r=.ok (nD c)):∃i:Int,f r=.ok (.int i):=let⟨c,e⟩:=h;⟨c,e⟩
theorem lX(h:∃i:Int,f r=.ok (.int i))(h':f' r=.ok (.int b))(U : -(2^64)<b/\b<2^64):∃i:Int,f2 f f' bK r=.ok (.int i):=by obtain⟨i,L⟩:=h;exact⟨i*b,aj L h' (jn (.inr U))⟩
theorem qT(h:∃i:Int,f r=.ok (.int i))(h':∃i:Int,f' r=.ok (.int i)):∃i:Int,f2 f f' addA r=.ok (.int i):=by obtain⟨i,U⟩:=h;obtain⟨j,L⟩:=h';exact⟨i+j,aj U L rfl⟩
end
theorem Ec(h:∃c:Nat,f r=.ok (nD c))(k:∀c:Nat,∃d:Nat,L (r.set i (some (nD c)))=.rt (nD d)):∃d:Nat,al (aY m i f) L r=.rt (nD d):=by obtain⟨c,Y⟩:=h;obtain⟨d,U⟩:=k c;exact⟨d,(ao (aM Y)).trans U⟩
abbrev IN(ns:List Int):D:=.lst (ns.map .int)
theorem jp(L:List Int)(k:Nat)(w:k<=1000):∃c:Nat,gH [IN L,nD k]=.ok (nD c):=by
 suffices h:∃c:Nat,tJ _=.rt (nD c)by obtain⟨c,q⟩:=h;exact⟨c,cU (B:=tJ) (n:=4) q⟩
 unfold tJ;have l:al (aY eF 2 (ci 0))=al _:=rfl;rw[l];refine Ec ⟨0,rfl⟩ fun Z=>?_;show ∃d:Nat,al _ _ [some (IN L),some (nD k),some (nD Z),none]=_;have g:∃U:Nat,(dQ eF (bj (f2 (gv 1) (fC (ak (gv 0) ag) lenD) ltI)) (al (aY eF 2 (f2 (f2 (gv 0) (gv 1) aF) (f2 (ci 10) (ci 60) gS) bn)) be) be) [some (IN L),some (nD k),some (nD Z),none]=.nx [some (IN L),some (nD k),some (nD U),none]:=by
  have t:=bW (aj (f:=gv 1) (r:=[some (IN L),some (nD k),some (nD Z),none]) rfl (aS (ae (f:=gv 0) rfl ah) (Io _ _)) (lQ k L.length));by_cases Y:k<L.length
  .rw[Q_d Y]at t;have o:(L.map D.int)[k]? = some (.int L[k]):=by simp_all
   have p:gS (.int 10) (.int 60)=some (.int (10^60)):=by rfl
   obtain⟨U,i⟩:=m7 (f:=f2 (gv 0) (gv 1) aF) (f':=f2 (ci 10) (ci 60) gS) (r:=[some (IN L),some (nD k),some (nD Z),none]) ⟨L[k],aj rfl rfl (dX o)⟩ (aj rfl rfl p) (by decide);exact⟨U,(aI t).trans ((ao (aM i)).trans rfl)⟩
  .rw[Q_c Y]at t;exact⟨Z,(aJ t).trans rfl⟩
 obtain⟨U,i⟩:=g;rw[ao i];have m:∃b,(fR (bj (f2 (fC (ak (gv 0) ag) lenD) (ci 0) jd)) (bj (f2 (f2 (f2 (gv 0) (ci 0) aF) (ci 2) bn) (ci 0) eqD))) [some (IN L),some (nD k),some (nD U),none]=.ok b:=by have t:=bW (aj (f:=fC (ak (gv 0) ag) lenD) (f':=fun _=>Res.ok (D.int 0)) (r:=[some (IN L),some (nD k),some (nD U),none]) (aS (ae rfl ah) (Io _ _)) rfl (qX L.length 0));cases L with
 |nil=>exact⟨false,vH t⟩
 |cons a L=>obtain⟨e,u⟩:=m7 (f:=f2 (gv 0) (ci 0) aF) (f':=fun _=>Res.ok (D.int 2)) (r:=[some _,some (nD k),some (nD U),none]) ⟨a,aj rfl rfl (ixA_L0 _ _)⟩ rfl (by decide);exact⟨_,(rh t).trans (bW (aj u rfl (jR e 0)))⟩
 obtain⟨b,j⟩:=m;cases b with
|true=>exact⟨U,aE ((aI j).trans (aE (a9 rfl)))⟩
|false=>rw[ao ((aJ j).trans (e_skip _))];refine Ec (m7 (lX (K3 (m7 (lX (qT (qT (qT ⟨(U:Int),rfl⟩ (lX (lX ⟨7,rfl⟩ rfl (by omega)) rfl (by omega))) (lX ⟨13,rfl⟩ rfl (by omega))) ⟨5,rfl⟩) rfl (by decide)) rfl (by decide))) rfl (by decide)) rfl (by decide)) fun e=>?_;obtain⟨v,s⟩:=m7 (f:=(f2 (f2 (f2 (f2 (gv 3) (ci 1) addA) (ci 40692) bK) (ci 2147483629) bn) (ci 39373) bK)) (f':=fun _=>Res.ok (D.int 999999937)) (r:=[some (IN L),some (nD k),some (nD U),some (nD e)]) (lX (K3 (m7 (lX (qT ⟨(e:Int),rfl⟩ ⟨1,rfl⟩) rfl (by decide)) rfl (by decide))) rfl (by decide)) rfl (by decide);exact⟨v,aE (a9 s)⟩
theorem PP:cK (L.map nD) i (nD x)=(cK L i x).map nD:=by unfold cK;rw[b_,M_,Yx,Û,Ğ]
theorem Rh{x:Nat}:(cK L i x).Perm (x::L):=by unfold cK;refine List.perm_middle.trans ?_;rw[Ĕ]
theorem HX(m:Nat):∀(j i c:Nat)(Y:List Nat)(x:Option D),Y.Perm (d_ i)->i+j<=60 ->∃(f:Nat)(L:List Nat)(e:Option D),L.Perm (d_ (i+j))/\aZ (aw 3) Ka ((Ý i j).map nD) [some (nD c),some (nD m),some (LN Y),x]=.nx [some (nD f),some (nD m),some (LN L),e]
|0,i,c,Y,x,Z,_=>⟨c,Y,x,Z,fq⟩
|j+1,i,c,Y,x,Z,l=>by
  have g:Y.length=i:=by rw[Z.length_eq];simp
  obtain⟨f,L,e,k,h⟩:=HX m j (i+1) (c/(i+1)) (cK Y ((c%(i+1):Nat):Int) i) (some (nD i)) (by refine Rh.trans ?_;rw[Ĝ];exact(List.Perm.cons i Z).trans (List.perm_append_singleton i _).symm) (by omega);refine⟨f,L,e,by rw[show i+(j+1)=i+1+j by omega];exact k,?_⟩;rw[<-h];have U:c%(i+1)<i+1:=YU _ (by omega);refine dL (r1:=[some (nD c),some (nD m),some (LN Y),some (nD i)]) rfl ?_;refine(ao (iw (d:=LN Y) (ds:=[nD (c%(i+1)),nD i]) (d':=LN (cK Y ((c%(i+1):Nat):Int) i)) rfl rfl (ae (aj (a:=nD c) (b:=nD (i+1)) rfl (aj (a:=nD i) (b:=nD 1) rfl rfl (im i 1)) (iu (by omega))) (ae (d:=nD i) rfl ah)) ?_)).trans ?_
  .show(if _ then some (D.lst (cK _ _ _))else none)=_;rw[Q_e ⟨by rw[b_,O_];omega,by omega,by omega⟩,PP]
  .exact ao (aM (d:=nD (c/(i+1))) (aj (a:=nD c) (b:=nD (i+1)) rfl (aj (a:=nD i) (b:=nD 1) rfl rfl (im i 1)) (NL (by omega) (by omega))))
theorem pd(c m:Nat)(b:m<=60):∃U:List Nat,U.Perm (d_ m)/\jX [nD c,nD m]=.ok (TN U):=by obtain⟨e,L,a,Z,Y⟩:=HX m m 0 c [] none (by simp) (by omega);rw[Zs]at Z;rw[<-ĕ]at Y;refine⟨L,Z,cU (B:=Ay) (n:=4) ?_⟩;unfold Ay;refine(ao (aM (d:=LN []) (eN ah (by simp)))).trans ?_;refine(ao ((dg (ds:=(d_ m).map nD) (fX (ae (d:=nD m) rfl ah) (fW (by omega)))).trans Y)).trans ?_;exact aE (a9 (aS (ae (d:=LN L) rfl ah) rfl))
theorem Ao(Y:List Int)(U n m:Nat)(q:U<=60)(p:n<=60)(o:m<=60):∃rows:List (List Nat),rows.length=n/\(∀L∈rows,L.Perm (d_ m))/\tV [IN Y,nD U,nD n,nD m]=.ok (WD rows):=by
 have h:∀h:Nat,∃L:List Nat,h<=60->L.Perm (d_ m)/\∃c:Nat,gH [IN Y,nD (U+h)]=.ok (nD c)/\jX [nD c,nD m]=.ok (TN L):=by
  intro h;by_cases Z:h<=60
  .obtain⟨c,hc⟩:=jp Y (U+h) (by omega);obtain⟨L,f,e⟩:=pd c m o;exact⟨L,fun _=>⟨f,c,hc,e⟩⟩
  .exact⟨[],fun z=>Q_g z Z⟩
 obtain⟨g,j⟩:=Qbh h;refine⟨(d_ n).map g,by simp,fun L k=>?_,dz (n:=4) ?_⟩
 .obtain⟨i,hi,rfl⟩:=F_.mp k;exact(j i (by have:=n_.mp hi;omega)).1
 .dsimp only[J5,AZ]
  refine aE (a9 (aS (ae (l0 (l:=d_ n) nD (fun _=>true) (fun h=>TN (g h)) (fX (ae (d:=nD n) rfl ah) (fW (by omega))) (by simp;omega) fun h Z=>⟨[some (nD h),some (nD m),some (IN Y),some (nD U)],rfl,rfl,fun _=>?_⟩) ah) ?_))
  .obtain⟨_,c,f,e⟩:=j h (by have:=n_.mp Z;omega);exact aD (ae (aD (ae (d:=IN Y) rfl (ae (aj (a:=nD U) (b:=nD h) rfl rfl (im U h)) ah)) f) (ae (d:=nD m) rfl ah)) e
  .rw[II,e_tupL];show some (D.tup _)=some (D.tup _);rw[r_];rfl
end Law
namespace Law
open PySem PyProof.Rows L2 DL
theorem Vi(a b:Nat):gZ (nD a) (nD b)=decide (a=b):=by show(((a:Nat):Int)==(b:Int))=_;rw[YG,beq_iff_eq,Q_i];exact Ď
theorem zo(k:Nat):∀l:List Nat,k∈l->ji (nD k) (l.map nD)=some (l.idxOf k)
|[],h=>by cases h
|a::l,h=>by
  show(if gZ _ _=true then some 0 else(ji _ _).map _)=_;rw[Vi];by_cases e:a=k
  .simp_all
  .rw[Q_f (by simpa using e),zo k l (by grind)]
   grind
theorem sE(h:k∈l):km (TN l) [nD k]=some (nD (l.idxOf k)):=by show(if cN _=true/\(l.map nD).all cN=true then(ji _ _).map fun j=>D.int j else none)=_;rw[Q_e ⟨rfl,qU l⟩,zo k l h];rfl
theorem oh(a:L r=.ok d)(U:uO T d=true)(Z:fl r=.ok ds)(Y:k d ds=some d'):fM T L fl k r=.ok d':=by unfold fM;rw[a,bind_ok,Q_e U,Z,bind_ok,Y];rfl
theorem PN(h:k∈l):zu (LN l) [nD k]=some (nD (l.idxOf k)):=by show(if cN _=true/\(l.map nD).all cN=true then(ji _ _).map fun j=>D.int j else none)=_;rw[Q_e ⟨rfl,qU l⟩,zo k l h];rfl
theorem Hg{i:Nat}(h:i<=l.length):kz (LN l) (some (i:Int)) none=some (LN (l.drop i)):=by show some _=_;unfold aT;rw[HT.cA,HT.cx,b_,Qdi h];rw[Ŝ (by simp)];show some _=some (D.lst _);rw[Ğ]
theorem fA(h:f r=.ok (.int i)):li f r=.ok (some i):=by unfold li;rw[h];rfl
theorem fV{lo L:Option Int}(c:Y r=.ok d)(b:fl r=.ok lo)(a:U r=.ok L)(Z:kz d lo L=some d'):j6 Y fl U r=.ok d':=by unfold j6;rw[c,bind_ok,b,bind_ok,a,bind_ok,Z];rfl
theorem oP(h:i<ds.length):eB (.lst ds) (nD i) v=some (.lst (ds.set i v)):=by show(iI ds.length (i:Int)).map _=_;unfold iI;rw[Q_e (Qcb i),Q_e (by omega)];simp
theorem dh{L:Type}{l:List L}(e:L->D)(g:L->D)(b:fi r=.ok (l.map e))(Y:l.length<=1000)(h:∀a∈l,∃r1,ft (e a) (bO nl cap r)=some r1/\fe r1=.ok (g a)):db nl cap fi ft (fun _=>Res.ok true) fe r=.ok (.lst (l.map g)):=by
 have:=l0 e (fun _=>true) g b Y fun a Z=>by obtain⟨r1,q1,U⟩:=h a Z;exact⟨r1,q1,rfl,fun _=>U⟩
 rw[this,II]
end Law
namespace Law
open PySem PyProof.Rows L2 DL Fq
section
abbrev FR(x:Int×Nat):D:=.tup [.int x.1,nD x.2]
abbrev TF(l:List (Int×Nat)):D:=.tup (l.map FR)
theorem wV(h:a<2^k)(L:k<=2000):a<n8:=by exact B_ h (QdK (by decide) L)
theorem i5(Z:a.natAbs<2^k)(Y:b.natAbs<2^l)(U:k<=2000)(L:l<=2000):mH (.int a) (.int b)=some (.int (a*b)):=by rw[mH,intsC_int,Q_e ⟨wV Z U,wV Y L⟩]
theorem sB(Y:0<b)(U:b<2^k)(L:k<=2000):vA (.int a) (nD b)=some (.int (a/(b:Int))):=by rw[vA,intsC_int,Q_e ⟨by omega,by exact wV U L⟩]
theorem Ej(b:Nat):neD (nD b) (.int 0)=some (.bl (! decide (b=0))):=nc b 0
theorem PJ:∀(k n:Nat)(a:Int)(b:Nat)(x:Option D),b<2^k->2*k+1<=n ->∃(U:Int)(y:Option D),fK m t5 t3 n [some (.int a),some (nD b),x]=.nx [some (.int U),some (nD 0),y]/\U.natAbs=è a b:=by
 have Y:∀(n:Nat)(a:Int)(x:Option D),1<=n->∃(U:Int)(y:Option D),fK m t5 t3 n [some (.int a),some (nD 0),x]=.nx [some (.int U),some (nD 0),y]/\U.natAbs=è a 0:=by
  intro n a x g;obtain⟨n,rfl⟩:∃k,n=k+1:=⟨n-1,by omega⟩
  exact⟨a,x,sr (bW (aj (a:=nD 0) (b:=.int 0) rfl rfl (Ej 0))),by simp⟩
 have c:∀(n:Nat)(a:Int)(b:Nat)(x:Option D),0<b->fK m t5 t3 (n+1) [some (.int a),some (nD b),x]=fK m t5 t3 n [some (nD b),some (nD (a%(b:Int)).toNat),some (nD (a%(b:Int)).toNat)]:=by
  intro n a b x Z;have L:=Ej b;rw[Q_c (by omega)]at L;refine su (bW (aj (b:=.int 0) rfl rfl L)) ?_;refine(ao (aM (d:=nD (a%(b:Int)).toNat) (aj (a:=.int a) (b:=nD b) rfl rfl ?_))).trans ?_
  .rw[yS (by omega)];show some (D.int _)=some (D.int _);rw[Ĩ (Qdh _ (by omega))]
  refine(ao (aM (d:=nD b) rfl)).trans ?_;exact ao (aM rfl)
 have f:∀(a:Int)(b:Nat),0<b->(((a%(b:Int)).toNat:Nat):Int)=a%(b:Int)/\(a%(b:Int)).toNat<b:=by
  intro a b Z;have v:=Qdh a (show(b:Int)≠0 by omega);have u:=Int.emod_lt_of_pos a (show(0:Int)<b by omega)
  grind
 intro k
 induction k with
|zero=>
  intro n a b x Z g;have:b=0:=by grind
  subst this;exact Y n a x (by omega)
|succ k l=>
  intro n a b x Z g;by_cases p:b=0
  .subst p;exact Y n a x (by omega)
  .have hbp:0<b:=by omega
   obtain⟨n,rfl⟩:∃j,n=j+2:=⟨n-2,by omega⟩
   obtain⟨e,i⟩:=f a b hbp;have h:=c (n+1) a b x hbp;generalize(a%(b:Int)).toNat=r at e i h;rw[h,Ij a b,<-e];by_cases o:r=0
   .subst o;exact Y (n+1) b _ (by omega)
   .obtain⟨s1,s2⟩:=f (b:Int) r (by omega);have q:=c n (b:Int) r (some (nD r)) (by omega);have s:((b:Int)%(r:Int)).toNat=b%r:=by omega
    rw[q,Ij (b:Int) r,<-s1];refine l n (r:Int) (b%r) _ ?_ (by omega);have t:b%r<=b-r:=by have:=Nat.mod_eq_sub_mod (show r<=b by omega);rw[this];exact Nat.mod_le _ _
    grind
theorem JD(L:b<2^k)(Y:k<=499):J7 [.int a,nD b]=.ok (nD (è a b)):=by
 obtain⟨c,y,U,Z⟩:=PJ k 1000 a b none L (by omega);refine cU ?_;refine(ao U).trans (aE (a9 (aS (ae rfl ah) ?_)));show some _=some _
 grind
theorem sg(Y:0<b)(a:b<2^k)(Z:k<=499):lC [.int t,nD b]=.ok (FR (low t b)):=by
 refine cU ?_;have U:=sv t Y;have L:è t b<2^k:=by have c:=ŋ.mp (ZF t b);have:=QdX Y c;omega
 refine(ao (aM (aD (ae rfl (ae rfl ah)) (JD a Z)))).trans ?_;refine aE (a9 (cz (ae (aj rfl rfl (sB U L (by omega))) (ae (aj rfl rfl (sB U L (by omega))) ah)) (by simp)))
theorem ip(x:Int×Nat):aF (FR x) (.int 0)=some (.int x.1):=rfl
theorem iX(x:Int×Nat):aF (FR x) (.int 1)=some (nD x.2):=hZ rfl
section
variable{k l:Nat}{a b:Int×Nat}
theorem SF(U:Bd k a)(L:Bd l b)(f:k+l<=498):mo [FR a,FR b]=.ok (FR (rH a b)):=by
 refine cU ?_;have e:=ip a;have Z:=iX a;have c:=ip b;have Y:=iX b;refine aE (a9 (aD (ae (aj (aj (aj rfl rfl e) (aj rfl rfl Y) (i5 U.top (by exact L.bot) (by omega) (by omega))) (aj (aj rfl rfl c) (aj rfl rfl Z) (i5 L.top (by exact U.bot) (by omega) (by omega))) rfl)
  (ae (d:=nD (a.2*b.2)) (aj (aj rfl rfl Z) (aj rfl rfl Y) ?_) ah)) ?_))
 .rw[i5 (by exact U.bot) (by exact L.bot) (by omega) (by omega)];simp_all
 .exact sg (sJ U L).1 (sJ U L).2 (by omega)
end
theorem sj{B:FS}(h:B (bP n ds)=.rt d):cX true (B (bP n ds))=.ok d:=by rw[h];rfl
theorem zm(g:U r=.ok d)(f:L r=.ok e)(c:bQ d=some ds)(Z:bQ e=some Y):gY U L r=.ok (È (fun a b=>D.tup [a,b]) ds Y):=by unfold gY;rw[g,bind_ok,f,bind_ok,c,opt_some,bind_ok,Z,opt_some,bind_ok]
theorem vJ{L:Type}(p:L->Bool):∀l:List L,iT (l.map fun x=>D.bl (p x))=some (l.map p)
|[]=>rfl
|x::l=>by show(iT _).map _=_;rw[vJ p l];rfl
theorem lf{L:Type}(p:L->Bool)(l:List L):allD [.lst (l.map fun x=>D.bl (p x))]=some (.bl (l.all p)):=by show(iT _).map _=_;rw[vJ];show some (D.bl _)=_;rw[List.all_map];rfl
theorem IB(i:Int):lE [.int i]=.ok (.bl true):=rfl
theorem Nl(U:b<2^k)(L:k<=499):KH [.int a,nD b]=.ok (nD (è a b)):=JD U L
theorem T9(Y:0<b)(a:b<2^k)(Z:k<=499):Jf [.int t,nD b]=.ok (FR (low t b)):=by
 refine cU ?_;have U:=sv t Y;have L:è t b<2^k:=by have c:=ŋ.mp (ZF t b);have:=QdX Y c;omega
 refine(ao ((aJ ?_).trans (e_skip _))).trans ?_
 .rw[aQ (cp (bU (aD (ae rfl ah) (IB t)) rfl)),aQ (cp (bU (aD (ae rfl ah) (IB b)) rfl))];have:=jR b 0;rw[Q_c (by omega)]at this;exact bW (aj rfl rfl this)
 refine(ao (aM (aD (ae rfl (ae rfl ah)) (Nl a Z)))).trans ?_;refine(ao ((aJ ?_).trans (e_skip _))).trans ?_
 .have:=lQ b 0;exact bW (aj rfl rfl this)
 refine aE (a9 (cz (ae (aj rfl rfl (sB U L (by omega))) (ae (aj rfl rfl (sB U L (by omega))) ah)) (by simp)))
open PySem PyProof.Rows L2 DL
theorem zz:∀l:List Nat,cP (l.map nD)=some (l.map fun k:Nat=>(k:Int))
|[]=>rfl
|k::l=>by show(cP _).map _=_;rw[zz l];rfl
open PySem PyProof.Rows L2 DL Fq Bk
section
variable{k l:Nat}{a b:Int×Nat}
theorem Ia(U:Bd k a)(L:Bd l b)(f:k+l<=498):oG [FR a,FR b]=.ok (FR (rH a b)):=by
 refine cU ?_;have e:=ip a;have Z:=iX a;have c:=ip b;have Y:=iX b;refine aE (a9 (aD (ae (aj (aj (aj rfl rfl e) (aj rfl rfl Y) (i5 U.top (by exact L.bot) (by omega) (by omega))) (aj (aj rfl rfl c) (aj rfl rfl Z) (i5 L.top (by exact U.bot) (by omega) (by omega))) rfl)
  (ae (d:=nD (a.2*b.2)) (aj (aj rfl rfl Z) (aj rfl rfl Y) ?_) ah)) ?_))
 .rw[i5 (by exact U.bot) (by exact L.bot) (by omega) (by omega)];simp_all
 .exact T9 (sJ U L).1 (sJ U L).2 (by omega)
theorem HY(U:Bd k a)(L:Bd l b)(f:k<=2000)(e:l<=2000):gM [FR a,FR b]=.ok (.bl (ou a b)):=by refine cU ?_;have d:=ip a;have c:=iX a;have Z:=ip b;have Y:=iX b;exact aE (a9 (aj (aj (aj rfl rfl d) (aj rfl rfl Y) (i5 U.top (by exact L.bot) (by omega) (by omega))) (aj (aj rfl rfl Z) (aj rfl rfl c) (i5 L.top (by exact U.bot) (by omega) (by omega))) rfl))
end
abbrev lo(N c:Nat):Int×Nat:=low (c:Int) N
abbrev Qn(N c:Nat):D:=FR (lo N c)
structure Nn(N:Nat):Prop where
 pos:0<N
 lt:N<2^100
section
variable{N:Nat}(hN:Nn N)
include hN
theorem lj(L:c<=N):Bd 100 (lo N c):=Bd.low hN.pos hN.lt (by exact Zt L hN.lt)
theorem qF:lo N 0=(0,1):=vS hN.pos
theorem DA:lo N N=(1,1):=by rw[<-mJ 1];exact pO hN.pos (by decide) (by simp)
theorem M8(U:a<=N)(L:b<=N):oG [Qn N a,Qn N b]=.ok (Qn N (a+b)):=by have:=Ia (lj hN U) (lj hN L) (by decide);rw[P4 hN.pos,<-Int.natCast_add]at this;exact this
theorem E3(Y:a<=N)(U:b<=N):gM [Qn N a,Qn N b]=.ok (.bl (decide (a<b))):=by
 have:=HY (lj hN Y) (lj hN U) (by omega) (by omega);rw[PZ hN.pos hN.pos]at this;have e:decide ((a)*(N)<(b:Int)*(N))=decide (a<b):=by have L:=hN.pos;rw[YG,Q_i,Q_i,<-ZI,<-ZI,Int.ofNat_lt];exact⟨fun h=>Nat.lt_of_mul_lt_mul_right h,fun h=>(Nat.mul_lt_mul_right L).mpr h⟩
 simp_all
theorem JJ:∀(l:List Nat)(s:Nat)(x:Option D),s+l.sum<=N->∃y,aZ (aw 2) Iv (l.map (Qn N)) [some d0,some (Qn N s),x]=.nx [some d0,some (Qn N (s+l.sum)),y]
|[],s,x,_=>⟨x,fq⟩
|c::l,s,x,h=>by rw[Ü]at h;obtain⟨y,L⟩:=JJ l (s+c) (some (Qn N c)) (by omega);refine⟨y,?_⟩;rw[Yx,Ü,<-QdY,<-L];refine dL (r1:=[some d0,some (Qn N s),some (Qn N c)]) rfl ?_;exact ao (aM (aD (ae (d:=Qn N s) rfl (ae (d:=Qn N c) rfl ah)) (M8 hN (by omega) (by omega))))
theorem So{l:List Nat}(h:l.sum<=N)(L:bQ d0=some (l.map (Qn N))):lA [d0]=.ok (Qn N l.sum):=by
 obtain⟨y,e⟩:=JJ hN (d0:=d0) l 0 none (by omega);rw[Zs]at e;refine dz (n:=3) ?_
 dsimp only[xO,rW]
 refine(ao (aM (d:=Qn N 0) (by show Res.ok (D.tup [D.int 0,D.int 1])=_;rw[show Qn N 0=.tup [.int 0,.int 1]by show FR (lo N 0)=_;rw[qF hN];rfl]))).trans ?_;refine(ao ((dg (eQ (d:=d0) rfl L)).trans e)).trans ?_;exact aE (a9 (d:=Qn N l.sum) rfl)
theorem JT:∀(l:List Nat)(m:Nat)(x:Option D),m<=N->(∀y∈l,y<=N)->∃L,aZ (aw 2) RF (l.map (Qn N)) [some d0,some (Qn N m),x]=.nx [some d0,some (Qn N (l.foldl (fun m y=>if y<m then y else m) m)),L]
|[],m,x,_,_=>⟨x,fq⟩
|y::l,m,x,b,U=>by
  have a:=U y m_;obtain⟨L,Y⟩:=JT (d0:=d0) l (if y<m then y else m) (some (Qn N y)) (by split <;> assumption) (fun z Z=>U z (k_ _ Z));refine⟨L,?_⟩;rw[Yx,ě,<-Y];refine dL (r1:=[some d0,some (Qn N m),some (Qn N y)]) rfl ?_;have t:=E3 hN a b;by_cases h:y<m
  .rw[Q_d h]at t;rw[Q_e h];exact ao ((aI (bU (aD (ae (d:=Qn N y) rfl (ae (d:=Qn N m) rfl ah)) t) rfl)).trans (ao (aM (d:=Qn N y) rfl)))
  .rw[Q_c h]at t;rw[Q_f h];exact ao ((aJ (bU (aD (ae (d:=Qn N y) rfl (ae (d:=Qn N m) rfl ah)) t) rfl)).trans (e_skip _))
theorem Sx(h:l≠[])(L:∀y∈l,y<=N):Gv [.lst (l.map (Qn N))]=.ok (Qn N (Et.dE l)):=by cases l with
|nil=>exact Q_g rfl h
|cons x l=>obtain⟨U,e⟩:=JT hN _ x none (L x m_) L;rw[ě,Q_f (YY x)]at e;refine cU ?_;refine(ao (aM (aj rfl rfl (ixA_L0 _ _)))).trans ?_;refine(ao ((dg (eQ rfl rfl)).trans e)).trans ?_;exact aE (a9 rfl)
end
def wr:Bool->List D->D
|true,ds=>.tup ds
|false,ds=>.lst ds
theorem jV(t:Bool)(ds:List D):bQ (wr t ds)=some ds:=by cases t <;> rfl
theorem m8(h:ds[i]? = some d):aF (wr t ds) (nD i)=some d:=by
 cases t
 .exact dX h
 .exact hZ h
theorem h8(t:Bool)(ds:List D):lenD [wr t ds]=some (nD ds.length):=by cases t <;> rfl
abbrev kC(t:Bool)(n N:Nat)(A:Nat->Nat->Nat)(i:Nat):D:=wr t ((d_ n).map fun j=>Qn N (A i j))
abbrev VQ(t:Bool)(n N:Nat)(A:Nat->Nat->Nat):D:=wr t ((d_ n).map fun i=>kC t n N A i)
section
variable{t:Bool}{n N s:Nat}{A:Nat->Nat->Nat}
theorem NK(h:f r=.ok d)(L:bQ d=some ds):jH f r=.ok (cB 0 ds):=by unfold jH;rw[h,bind_ok,L,opt_some,bind_ok]
end
open PySem PyProof.Rows L2 DL Fq Bk
theorem FA(a b:Int×Nat):iN (FR a) (FR b)=some (decide (a=b)):=by
 have h:∀(q:Int×Nat),∀d∈[D.int q.1,nD q.2],cn 59 d:=fun q d L=>by simp at L;rcases L with rfl|rfl <;> trivial
 rw[zD rfl (lz.mpr (h a)) (lz.mpr (h b))];unfold mL;simp only[bg,zfZ,ú,Ô];rw[Option.some.injEq,YG,Q_i,Prod.ext_iff];simp;omega
theorem L6(a b:Int×Nat):neD (FR a) (FR b)=some (.bl (! decide (a=b))):=by unfold neD;rw[FA];rfl
theorem FC(a b:Int×Nat):eqD (FR a) (FR b)=some (.bl (decide (a=b))):=by unfold eqD;rw[FA];rfl
abbrev pN(N:Nat)(q:Nat×List Nat):D:=.tup [Qn N q.1,TN q.2]
abbrev gD(N:Nat)(ps:List (Nat×List Nat)):D:=.lst (ps.map (pN N))
open PySem PyProof.Rows L2 DL Fq Bk
theorem DE(h:x<n):aF (.lst ((d_ n).map f)) (nD x)=some (f x):=by refine dX ?_;rw[l_,Y_ h];rfl
theorem Lr(h:x<n):eB (.lst ((d_ n).map f)) (nD x) v=some (.lst ((d_ n).map fun y=>if y=x then v else f y)):=by
 rw[oP (by simpa using h)];show some (D.lst _)=some (D.lst _);congr 2;refine Ĭ fun i=>?_;by_cases L:i<n
 .by_cases e:x=i
  .subst e;rw[x_ (by simpa using h),l_,Y_ h];simp
  .rw[j_ e,l_,l_,Y_ L];simp[ZM e]
 .rw[Zn (by simp;omega),Zn (by simp;omega)]
theorem EG(l:List Nat):sumD [LN l]=some (nD l.sum):=by
 have L:∀l:List Nat,(l.map fun k:Nat=>(k:Int)).sum=((l.sum)):=fun l=>by induction l with
 |nil=>rfl
 |cons k l U=>simp_all
 show(cP _).map _=_;rw[zz];simp_all
theorem xN:∀l:List Nat,(∀x∈l,1<=x/\x<=60)->l.sum<=60*l.length/\l.length<=l.sum
|[],_=>by simp
|x::l,h=>by
  have U:=h x m_;have:=xN l fun y L=>h y (k_ _ L)
  grind
theorem DD(L:h<d.length):aF (TN d) (nD h)=some (nD (dA d h)):=by refine hZ ?_;rw[l_,iW L];rfl
theorem sZ(q:Nat×List Nat)(ps:List (Nat×List Nat))(h x:Nat):mixN (q::ps) h x=(if x=dA q.2 h then q.1 else 0)+mixN ps h x:=by
 unfold mixN;by_cases e:x=dA q.2 h
 .rw[ţ,Q_e (by simpa using e.symm),Q_e e];simp
 .rw[ţ,Q_f (by simpa using fun z=>e z.symm),Q_f e];simp
theorem o9:∀(ps:List (Nat×List Nat))(h x:Nat),mixN ps h x<=(ps.map (·.1)).sum
|[],h,x=>by simp[mixN]
|q::ps,h,x=>by have:=o9 ps h x;rw[sZ,Yx,Ü];split <;> omega
theorem oQ:∀{ps:List (Nat×List Nat)},(∀q∈ps,q.2.Perm (d_ n))->DS n (mixN ps) (ps.map (·.1)).sum
|[],_=>⟨fun i _=>yH fun j _=>by simp[mixN],fun j _=>yH fun i _=>by simp[mixN]⟩
|q::ps,h=>by
  have U:=oQ fun r Z=>h r (k_ _ Z);have L:=h q m_;rw[Yx,Ü];constructor
  .intro i hi;have e:sm n (mixN (q::ps) i)=sm n (fun j=>if j=dA q.2 i then(fun _=>q.1) j else 0)+sm n (mixN ps i):=by rw[<-xJ];exact pA fun j _=>sZ q ps i j
   rw[e,wB (n9 L hi).2,U.row i hi]
  .intro j hj;obtain⟨a,Y,rfl⟩:=NF L hj;have e:sm n (fun i=>mixN (q::ps) i (dA q.2 a))=sm n (fun i=>if i=a then(fun _=>q.1) i else 0)+sm n (fun i=>mixN ps i (dA q.2 a)):=by
    rw[<-xJ];refine pA fun i hi=>?_;rw[sZ];by_cases z:i=a
    .simp_all
    .rw[Q_f z,Q_f fun w=>z (Lc L hi Y w.symm)]
   rw[e,wB Y,U.col _ hj]
structure Pz(n N:Nat)(ps:List (Nat×List Nat)):Prop where
 n1:1<=n
 n7:n<=7
 N0:Nn N
 sum:(ps.map (·.1)).sum=N
 ok:∀q∈ps,q.2.Perm (d_ n)
 few:ps.length<=900
section
variable{n N:Nat}{ps:List (Nat×List Nat)}
abbrev uS(n N:Nat)(q:Nat->Nat):D:=.lst ((d_ n).map fun x=>Qn N (q x))
end
theorem GC(m:List Int)(g n f:Nat)(B:e.length=f)(v:∀x∈e,1<=x/\x<=60)(U:0<e.sum)(hs:e.sum<=720)(Z:g<=60)(t:n<=60):∀(j i:Nat)(ps:List (Nat×List Nat))(x:Option D),i+j=f->f<=12->ps.map (·.1)=e.take i->(∀p∈ps,p.2.Perm (d_ n)) ->∃(L:List (Nat×List Nat))(y:Option D),L.map (·.1)=e/\(∀p∈L,p.2.Perm (d_ n))/\aZ (aw 7) UO ((Ý i j).map nD) [some (IN m),some (nD g),some (nD n),some (nD f),some (LN e),some (nD e.sum),some (gD e.sum ps),x]=.nx [some (IN m),some (nD g),some (nD n),some (nD f),some (LN e),some (nD e.sum),some (gD e.sum L),y]
|0,i,ps,x,h,_,o,r=>⟨ps,x,by rw[o,Ŝ (by omega)],r,fq⟩
|j+1,i,ps,x,h,s,o,r=>by
  have u:i<e.length:=by omega
  have I:=v e[i] (Zv _);obtain⟨c,C⟩:=jp m (g+2*i+1) (by omega);obtain⟨l,r1,w⟩:=pd c n t;have H:ps.length=i:=by have:=Q_h Z5 o;rw[b_,Zj]at this;omega
  obtain⟨L,y,G,F,E⟩:=GC m g n f B v U hs Z t j (i+1) (ps++[(e[i],l)]) (some (nD i)) (by omega) s (by rw[M_,o,List.take_succ,g_ u];rfl) (fun p q=>by
   rcases ZH.mp q with z|z
   .exact r p z
   .rw[YA.mp z];exact r1)
  refine⟨L,y,G,F,?_⟩;rw[<-E,Ę,Yx];refine dL (r1:=[some (IN m),some (nD g),some (nD n),some (nD f),some (LN e),some (nD e.sum),some (gD e.sum ps),some (nD i)]) rfl ?_;rw[show gD e.sum (ps++[(e[i],l)])=.lst (ps.map (pN e.sum)++[pN e.sum (e[i],l)])by show D.lst (Zd _ _)=_;rw[M_];rfl];have A:bK (.int 2) (nD i)=some (nD (2*i)):=by rw[jn (.inl ⟨by decide,by decide⟩)];show some (D.int _)=some (D.int _);rw[ZI];rfl
  have Y:aF (LN e) (nD i)=some (.int (e[i]:Int)):=dX (by rw[l_,g_ u];rfl);exact ao (iw (d:=gD e.sum ps) (ds:=[pN e.sum (e[i],l)]) rfl rfl (ae (cz (ae (aD (ae (aj (a:=LN e) (b:=nD i) rfl rfl Y) (ae (d:=nD e.sum) rfl ah)) (sg (k:=10) U (by show e.sum<1024;omega) (by decide))) (ae (aD (ae (aD (ae (d:=IN m) rfl (ae (aj (b:=nD 1) (aj (a:=nD g) rfl (aj (b:=nD i) rfl rfl A) (im _ _)) rfl (im _ 1)) ah)) C) (ae (d:=nD n) rfl ah)) w) ah)) (by simp)) ah) (kl (by simp;omega)))
theorem Sj(i:List Int)(e n Z:Nat)(Y:e<=60)(U:1<=n)(u:n<=7)(B:1<=Z)(j:Z<=12):∃(N:Nat)(ps:List (Nat×List Nat)),N<=720/\ps.length=Z/\Pz n N ps/\Kh [IN i,nD e,nD n,nD Z]=.ok (gD N ps):=by
 have o:∀k:Nat,∃c:Nat,k<=60->gH [IN i,nD (e+2*k)]=.ok (nD c):=by
  intro k;by_cases m:k<=60
  .obtain⟨c,o⟩:=jp i (e+2*k) (by omega)
   grind
  grind
 obtain⟨g,v⟩:=Qbh o;have p:∀x∈(d_ Z).map (fun k=>1+g k%60),1<=x/\x<=60:=fun x A=>by grind
 have L:=xN _ p;have f:((d_ Z).map fun k=>1+g k%60).length=Z:=by simp
 rw[f]at L;obtain⟨ps,y,z,w,q⟩:=GC i e n Z f p (by omega) (by omega) Y (by omega) Z 0 [] none (by omega) j rfl (fun _ h=>by cases h);rw[<-ĕ]at q;have s:ps.length=Z:=by grind
 refine⟨_,ps,?_,s,⟨U,u,⟨?_,?_⟩,Q_h List.sum z,w,by omega⟩,dz (n:=8) ?_⟩
 .omega
 .omega
 .grind
 dsimp only[Kf,Aq]
 refine(ao (aM (d:=LN ((d_ Z).map fun k=>1+g k%60)) ?_)).trans ?_
 .have hcc:=dh (nl:=1) (cap:=[0,1]) (fi:=cZ cR (ak (gv 3) ag)) (ft:=aw 0) (fe:=f2 (ci 1) (f2 (bx (ak (gv 1) (ak (f2 (gv 2) (f2 (ci 2) (gv 0) bK) addA) ag)) [] gH) (ci 60) bn) addA) (r:=[some (IN i),some (nD e),some (nD n),some (nD Z),none,none,none,none]) (l:=d_ Z) nD (fun k=>nD (1+g k%60)) (fX (ae (d:=nD Z) rfl ah) (fW (by omega))) (by simp;omega) fun k m=>⟨[some (nD k),some (IN i),some (nD e)],rfl,?_⟩
  .refine hcc.trans ?_;show Res.ok (D.lst _)=Res.ok (D.lst _);rw[r_];rfl
  .have hk':=n_.mp m;have t:bK (.int 2) (nD k)=some (nD (2*k)):=by
    rw[jn (.inl ⟨by decide,by decide⟩)]
    grind
   exact aj (a:=nD 1) rfl (aj (b:=nD 60) (aD (ae (d:=IN i) rfl (ae (aj (a:=nD e) rfl (aj (b:=nD k) rfl rfl t) (im _ _)) ah)) (v k (by omega))) rfl (iu (by omega))) (im 1 _)
 refine(ao (aM (aS (ae (d:=LN ((d_ Z).map fun k=>1+g k%60)) rfl ah) (EG _)))).trans ?_;refine(ao (aM (d:=.lst []) (eN ah (by simp)))).trans ?_;refine(ao ((dg (fX (ae (d:=nD Z) rfl ah) (fW (by omega)))).trans q)).trans ?_;exact aE (a9 (d:=gD _ ps) rfl)
open PySem PyProof.Rows L2 DL Fq Bk
theorem Vq(a b:Nat):ii (nD a) (nD b)=some (.bl (decide (a<=b))):=by show some _=_;simp
theorem E5(hN:Nn N)(Y:0<c):0<(lo N c).1:=by
 have Z:(lo N c).1*(N)=(c)*((lo N c).2):=jo _ N;have U:=jm (c) hN.pos;have L:(0)<(c)*((lo N c).2:Int):=by exact Ŏ.mpr (Æ Y U)
 rw[<-Z]at L;have:=hN.pos;exact Int.pos_of_mul_pos_left L (by omega)
open PySem PyProof.Rows L2 DL
def oi:Option Int->DL.D
|none=>.non
|some i=>.int i
abbrev lG(ks:List Nat):List (Option Int):=ks.map fun k:Nat=>some (k:Int)
structure Gd1(b:Nat)(l:List (Option Int))(ks:List Nat):Prop where
 eq:l=lG ks
 nd:ks.Nodup
 lt:∀k∈ks,k<b
def Gd(b:Nat)(l:List (Option Int)):Prop:=∃ks,Gd1 b l ks
abbrev TD(T:List Nat):DL.D:=.dic (T.map fun t=>(kI t,DL.D.bl true))
theorem Ft(T:List Nat)(k:Nat):((T.map fun t=>(kI t,DL.D.bl true)).any fun L=>decide (L.1=kI k))=decide (k∈T):=by
 rw[Ĳ,YG,ę,Q_i];constructor
 .rintro⟨p,h1,h2⟩
  simp only[Function.comp_apply,Q_k]at h2;exact Mu h2▸h1
 .intro h;exact⟨k,h,by simp⟩
theorem Vo(T:List Nat)(k:Nat):jb (nD k) (TD T)=some (.bl (decide (k∈T))):=by rw[<-Ft];rfl
theorem M1(h:k∉T)(L:T.length<=1000):eB (TD T) (nD k) (.bl true)=some (TD (T++[k])):=by show(if (T.map fun t=>(kI t,DL.D.bl true)).length<sizeLine then some (DL.D.dic (eZ _ (kI k) (DL.D.bl true)))else none)=_;rw[Q_e (by rw[b_,O_];omega)];unfold eZ;rw[Ft,Q_c h,Q_f y_];show _=some (DL.D.dic (Zd _ (T++[k])));rw[M_];rfl
theorem xZ(h:Int)(b:Nat):lD [.int h,nD b]=.ok (.bl (decide (0<=h/\h<b))):=by
 refine cU ?_;refine aE (a9 ?_);show((if decide _=true then(Res.ok (DL.D.bl _))else .ok _))=_
 grind
theorem Oc(b:Nat):lD [.non,nD b]=.ok (.bl false):=by
 refine dz (n:=2) ?_
 dsimp only[Jb,zP]
 refine aE (a9 ?_);rw[lv (aD (ae rfl ah) (show lE [.non]=.ok (.bl false)from rfl))]
theorem fw_loop(b:Nat)(U:DL.D):∀(L:List (Option Int))(f:List Nat)(x y:Option DL.D),f.length+L.length<=900->f.Nodup->(∀k∈f,k<b) ->(Gd b (lG f++L)/\∃T A w,aZ (cE (ba (aw 3) (ba (aw 4) cD))) nK (cB f.length (L.map oi)) [some U,some (nD b),some (TD f),x,y]=.nx [some U,some (nD b),some (TD T),A,w]) \/(¬ Gd b (lG f++L)/\∃k,k<f.length+L.length/\aZ (cE (ba (aw 3) (ba (aw 4) cD))) nK (cB f.length (L.map oi)) [some U,some (nD b),some (TD f),x,y]=.rt (nD k))
|[],f,x,y,_,C,E=>.inl ⟨⟨f,by rw[Ú],C,E⟩,f,x,y,fq⟩
|o::L,f,x,y,R,C,E=>by
  rw[I_]at R;have Y:(∀k:Nat,o=some (k:Int)->k<b->k∈f)->¬ Gd b (lG f++o::L):=fun h V=>by
   obtain⟨q,e,M,N⟩:=V
   have g:∃k,o=some ((k:Nat):Int)/\q[f.length]? = some k:=by have:=Q_h (fun l=>l[f.length]?) e;simp only[l_]at this;rw[ZC (by simp)]at this;simp at this;cases p:q[f.length]? with
   |none=>rw[p]at this;simp at this
   |some k=>rw[p]at this;exact⟨k,by simpa using this,rfl⟩
   obtain⟨k,Q,g⟩:=g;have ac:=h k Q (N k (YV g));obtain⟨i,n,X⟩:=P_ ac;have H:q[i]? = some k:=by have:=Q_h (fun l=>l[i]?) e;simp only[l_]at this;rw[Yw (by simpa using n),l_,g_ n]at this;cases p:q[i]? with
   |none=>rw[p]at this;simp at this
   |some s=>rw[p]at this;simp at this;rw[<-X];congr 1;omega
   have:=(List.getElem?_inj (i:=i) (j:=f.length) (by have:=(h_.mp H).1;exact this) M).mp (H.trans g.symm);omega
  have B:cB f.length ((o::L).map oi)=DL.D.tup [nD f.length,oi o]::cB (f.length+1) (L.map oi):=rfl;rw[B];have m:(gz (dR (cL (bx (ak (gv 4) (ak (gv 1) ag)) [] lD))) (bj (f2 (gv 4) (gv 2) jb))) [some U,some (nD b),some (TD f),some (nD f.length),some (oi o)]=.ok true->∃k,k<f.length+(o::L).length/\aZ (cE (ba (aw 3) (ba (aw 4) cD))) nK (DL.D.tup [nD f.length,oi o]::cB (f.length+1) (L.map oi)) [some U,some (nD b),some (TD f),x,y]=.rt (nD k):=fun h=>⟨f.length,by rw[I_];omega,wH (r1:=[some U,some (nD b),some (TD f),some (nD f.length),some (oi o)]) rfl (aE ((aI h).trans (aE (a9 (d:=nD f.length) rfl))))⟩
  cases o with
 |none=>refine .inr ⟨Y fun k g=>(nomatch g),m ?_⟩;exact cG (cp (b:=false) (bU (aD (ae rfl (ae rfl ah)) (Oc b)) rfl))
 |some i=>
   have t:=xZ i b;by_cases n:0<=i/\i<(b:Int)
   .obtain⟨k,rfl⟩:∃k:Nat,i=(k:Int):=⟨i.toNat,by omega⟩
    rw[Q_d n]at t;have K:=cp (b:=true) (bU (aD (fl:=ak (gv 4) (ak (gv 1) ag)) (r:=[some U,some (nD b),some (TD f),some (nD f.length),some (nD k)]) (ae rfl (ae rfl ah)) t) rfl);have u:=Vo f k;by_cases g:k∈f
    .rw[Q_d g]at u;refine .inr ⟨Y fun s I _=>(show k=s from Ď.mp (K_ I))▸g,m ?_⟩;rw[show oi (some (k:Int))=nD k from rfl,aQ K];exact bW (aj rfl rfl u)
    .rw[Q_c g]at u;have Z:k<b:=by omega
     have P:nK [some U,some (nD b),some (TD f),some (nD f.length),some (nD k)]=.nx [some U,some (nD b),some (TD (f++[k])),some (nD f.length),some (nD k)]:=by
      refine(ao ((aJ ?_).trans (e_skip _))).trans ?_
      .rw[aQ K];exact bW (aj rfl rfl u)
      .exact ao (jk (d:=TD f) (k:=nD k) rfl rfl rfl (M1 g (by omega)))
     have e0:aZ (cE (ba (aw 3) (ba (aw 4) cD))) nK (DL.D.tup [nD f.length,oi (some (k:Int))]::cB (f.length+1) (L.map oi)) [some U,some (nD b),some (TD f),x,y]=aZ (cE (ba (aw 3) (ba (aw 4) cD))) nK (cB (f.length+1) (L.map oi)) [some U,some (nD b),some (TD (f++[k])),some (nD f.length),some (nD k)]:=dL (r1:=[some U,some (nD b),some (TD f),some (nD f.length),some (nD k)]) rfl P;have J:(f++[k]).length=f.length+1:=by simp
     have eg:lG (f++[k])++L=lG f++some (k:Int)::L:=by simp[lG]
     have G:=fw_loop b U L (f++[k]) (some (nD f.length)) (some (nD k)) (by rw[J];omega) (List.nodup_append.mpr ⟨C,by simp,fun a W c S z=>g (by rw[YA.mp S]at z;exact z▸W)⟩) (fun z O=>by
      rcases ZH.mp O with v|v
      .exact E z v
      .rw[YA.mp v];exact Z)
     rw[eg,J]at G;rw[e0];rcases G with⟨F,T,A,w,e⟩|⟨F,s,I,e⟩
     .exact .inl ⟨F,T,A,w,e⟩
     .exact .inr ⟨F,s,by rw[I_];omega,e⟩
   .rw[Q_c n]at t;refine .inr ⟨Y fun k g Z=>?_,m ?_⟩
    .exfalso;apply n;have:i=(k:Int):=K_ g;omega
    .exact cG (cp (b:=false) (bU (aD (ae rfl (ae rfl ah)) t) rfl))
open Classical in
theorem Nk(t:Bool)(b:Nat)(Y:l.length<=900):∃k,J8 [wr t (l.map oi),nD b]=.ok (nD k)/\(Gd b l->k=l.length)/\(¬ Gd b l->k<l.length):=by
 have U:jH (gv 0) [some (wr t (l.map oi)),some (nD b),some (TD []),none,none]=.ok (cB 0 (l.map oi)):=NK (d:=wr t (l.map oi)) rfl (jV _ _);have L:lenD [wr t (l.map oi)]=some (nD l.length):=by rw[h8,b_]
 rcases fw_loop b (wr t (l.map oi)) l [] none none (by simpa using Y) Qfj (fun _ z=>(nomatch z))with⟨g,T,c,a,e⟩|⟨g,k,Z,e⟩
 .refine⟨l.length,dz (n:=5) ?_,fun _=>rfl,fun h=>Q_g g h⟩
  dsimp only[BD,tR]
  refine(ao (aM (d:=TD []) rfl)).trans ?_;refine(ao ((dg U).trans e)).trans ?_;exact aE (a9 (aS (ae rfl ah) L))
 .refine⟨k,dz (n:=5) ?_,fun h=>Q_g h g,fun _=>by simpa using Z⟩
  dsimp only[BD,tR]
  refine(ao (aM (d:=TD []) rfl)).trans ?_;exact aE ((dg U).trans e)
open Classical in
theorem He(t:Bool)(b:Nat)(U:l.length<=900):tZ [wr t (l.map oi),nD b]=.ok (.bl (decide (Gd b l))):=by
 obtain⟨k,e,a,Z⟩:=Nk t b U;have L:lenD [wr t (l.map oi)]=some (nD l.length):=by rw[h8,b_]
 have Y:decide (k=l.length)=decide (Gd b l):=by
  by_cases g:Gd b l
  .rw[Q_d g,Q_d (a g)]
  .rw[Q_c g,Q_c (by have:=Z g;omega)]
 refine cU ?_;rw[<-Y];exact aE (a9 (aj (aD (ae rfl (ae rfl ah)) e) (aS (ae rfl ah) L) (jR _ _)))
open Classical in
theorem OH(t:Bool)(b:Nat)(Y:l.length<=900):Cd [wr t (l.map oi),nD b]=.ok (.bl (decide (l.length=b/\Gd b l))):=by
 have L:lenD [wr t (l.map oi)]=some (nD l.length):=by rw[h8,b_]
 have U:=jR l.length b;refine cU ?_
 dsimp only[Kv,A7]
 refine aE (a9 ?_);by_cases h:l.length=b
 .rw[Q_d h]at U;rw[fB (aj (aS (ae rfl ah) L) rfl U)];have:decide (l.length=b/\Gd b l)=decide (Gd b l):=by by_cases g:Gd b l <;> simp[h,g]
  rw[this];exact aD (ae rfl (ae rfl ah)) (He t b Y)
 .rw[Q_c h]at U;rw[lv (aj (aS (ae rfl ah) L) rfl U),Q_c (fun z=>h z.1)]
theorem NN:(l.length=n/\Gd n l)↔∃ks:List Nat,l=lG ks/\ks.Perm (d_ n):=by
 constructor
 .rintro⟨h,ks,e,nd,lt⟩
  refine⟨ks,e,Rg.Ix nd (by simp_all) ?_⟩;simp_all
 .rintro⟨ks,e,p⟩
  refine⟨by rw[e];simp[p.length_eq],ks,e,p.nodup_iff.mpr Ù,fun k L=>n_.mp (p.mem_iff.mp L)⟩
open PySem PyProof.Rows L2 DL
abbrev upz(r:List Nat):List Int:=r.map fun k:Nat=>(k:Int)
theorem sA:∀l:List Int,cP (l.map DL.D.int)=some l
|[]=>rfl
|k::l=>by show(cP _).map _=_;rw[sA l];rfl
theorem L5(h:∀x∈hs,0<=x):hs=upz (hs.map ZS):=by
 show hs=(hs.map ZS).map _;rw[r_]
 conv=>lhs;rw[<-þ hs]
 refine X_ fun x L=>?_;exact(Ĩ (h x L)).symm
theorem LG(r:List Nat):IN (upz r)=LN r:=by simp_all
open PySem PyProof.Rows L2 DL
theorem Fa(hs:List Int):(hs.map some).map oi=hs.map DL.D.int:=by rw[r_];rfl
theorem MH(h:Gd n (hs.map some)):∃ks:List Nat,hs=upz ks/\ks.Nodup/\∀k∈ks,k<n:=by obtain⟨ks,e,L,U⟩:=h;refine⟨ks,?_,L,U⟩;have:=Q_h (Zd fun o=>o.getD 0) e;simpa[Qez]using this
section
variable{rows:List (List Nat)}{dl:List Nat}{n m:Nat}{hs:List Int}
open Classical in
theorem qe(tb:Bool)(L:hs.length<=60):tZ [wr tb (hs.map DL.D.int),nD n]=.ok (.bl (decide (Gd n (hs.map some)))):=by have h:=He tb (l:=hs.map some) n (by simp;omega);rw[Fa]at h;exact h
end
open PySem PyProof.Rows L2 DL
abbrev WI(tb:Bool)(hs:List Int):D:=wr tb (hs.map D.int)
section
variable{rows:List (List Nat)}{dl:List Nat}{n m:Nat}{hs:List Int}
open Classical in
theorem DG(tb:Bool)(L:hs.length<=60):Cd [WI tb hs,nD n]=.ok (.bl (decide ((hs.map some).length=n/\Gd n (hs.map some)))):=by have h:=OH tb (l:=hs.map some) n (by simp;omega);rw[Fa]at h;exact h
abbrev Og(n:Nat)(hs:List Int):Prop:=∃o:List Nat,hs=upz o/\o.Perm (d_ n)
theorem Ma:((hs.map some).length=n/\Gd n (hs.map some))↔Og n hs:=by
 rw[NN];constructor
 .rintro⟨ks,e,p⟩
  refine⟨ks,?_,p⟩;have:=Q_h (Zd fun o=>o.getD 0) e;simpa[Qez]using this
 .rintro⟨o,rfl,p⟩
  exact⟨o,by simp_all,p⟩
end
open PySem PyProof.Rows L2 DL
theorem Qz:∀(n i:Nat),((Ý i n).map fun k:Nat=>(k:Int)).Pairwise (·<=·):=fun n i=>by rw[ĭ];refine QeA (fun{a b} h=>?_) (List.pairwise_lt_range');omega
theorem Hj:gr hs=upz (d_ n)↔Og n hs:=by
 constructor
 .intro e;have L:=(tj hs).symm;rw[e]at L;have U:=L5 (hs:=hs) fun x Y=>by grind
  refine⟨_,U,?_⟩;have:=L.map ZS;rw[show(upz _).map ZS=d_ n by
   rw[r_]
   conv=>rhs;rw[<-þ (d_ n)]
   exact X_ fun x _=>rfl]at this
  exact this
 .rintro⟨o,rfl,p⟩
  refine wA ((tj _).trans (p.map _)) (yJ _) ?_;rw[ĕ];exact Qz n 0
theorem Vs(h:n<=1000):lP [nD n]=some (IN (upz (d_ n))):=by rw[GS h,LG]
open PySem PyProof.Rows L2 DL
def Cp:Nat->D->Prop
|_,.non=>True
|_,.int _=>True
|_,.str _=>True
|k+1,.tup ds=>ds.length<=1000/\∀d∈ds,Cp k d
|k+1,.lst ds=>ds.length<=1000/\∀d∈ds,Cp k d
|_,_=>False
theorem tH:∀(k:Nat)(d:D),Cp k d->ny (k+1) [d]=.ok d:=by
 intro k
 induction k with
|zero=>intro d h;cases d with
 |non=>rfl
 |int i=>rfl
 |str s=>rfl
 |_=>exact h.elim
|succ k b=>intro d h;cases d with
 |non=>rfl
 |int i=>rfl
 |str s=>rfl
 |tup L=>
   obtain⟨Z,Y⟩:L.length<=1000/\∀d∈L,Cp k d:=h;refine cU ?_;refine(ao ((aJ (bU (fU (a:=.tup L) (d:=.bl false) rfl rfl) rfl)).trans (e_skip _))).trans ?_;refine aE ((aI (bU (fU (a:=.tup L) (d:=.bl true) rfl rfl) rfl)).trans (aE (a9 (aS (ae ?_ ah) (e_tupL _)))));have:=dh (nl:=1) (cap:=[]) (fi:=aV bQ (gv 0)) (ft:=aw 0) (fe:=bx (ak (gv 0) ag) [] _) (r:=bP 1 [.tup L]) _ _ (by rw[ĳ];rfl) Z fun d U=>⟨_,rfl,aD (ae rfl ah) (b d (Y d U))⟩
   rw[ĳ]at this;exact this
 |lst L=>
   obtain⟨Z,Y⟩:L.length<=1000/\∀d∈L,Cp k d:=h;refine cU ?_;refine aE ((aI (bU (fU (a:=.lst L) (d:=.bl true) rfl rfl) rfl)).trans (aE (a9 ?_)));have:=dh (nl:=1) (cap:=[]) (fi:=aV bQ (gv 0)) (ft:=aw 0) (fe:=bx (ak (gv 0) ag) [] _) (r:=bP 1 [.lst L]) _ _ (by rw[ĳ];rfl) Z fun d U=>⟨_,rfl,aD (ae rfl ah) (b d (Y d U))⟩
   rw[ĳ]at this;exact this
 |_=>exact h.elim
theorem on(tb:Bool)(U:ds.length<=1000)(L:∀d∈ds,Cp k d):Cp (k+1) (wr tb ds):=by cases tb <;> exact⟨U,L⟩
theorem Fw(k:Nat)(i:Int):Cp k (.int i):=by cases k <;> trivial
theorem D8(k:Nat)(tb:Bool)(h:hs.length<=1000):Cp (k+1) (WI tb hs):=on tb (by simpa using h) fun d L=>by obtain⟨x,_,rfl⟩:=F_.mp L;exact Fw k x
theorem sx(Y:fl r=.ok ds)(U:F ds=.ok L):il nm fl [] F r=.ok (iD nm L):=by unfold il;rw[Y,bind_ok,Ú,U]
open PySem PyProof.Rows L2 DL
theorem RY(L:Cp 5 a):nJ [a]=.ok [("heights",a)]:=by unfold nJ Js gy;rw[aD (ae rfl ah) (tH 5 a L)];rfl
theorem IR(L:Cp 5 a):jq [a]=.ok [("parts",a)]:=by unfold jq Jr gy;rw[aD (ae rfl ah) (tH 5 a L)];rfl
theorem Td(U:Cp 5 a)(L:Cp 5 b):nR [a,b]=.ok [("ring",a),("part",b)]:=by unfold nR Ba gy;rw[aD (ae rfl ah) (tH 5 a U)];have e:=aD (fl:=ak (gv 2) ag) (r:=none::(Zd some [a,b]++t_ (Bj.length-([a,b].length+1)) none)) (ae rfl ah) (tH 5 b L);simp only[e];rfl
open PySem PyProof.Rows L2 DL
open PySem PyProof.Rows L2 DL Fq
theorem FL(f:Nat->D):∀{T:List Nat}{x:Nat},x∈T->cf (T.map fun x=>(kI x,f x)) (kI x)=some (f x)
|[],_,h=>by cases h
|y::T,x,h=>by
  by_cases e:y=x
  .subst e;simp[cf,Y4]
  .have ih:=FL f (T:=T) (x:=x) (by grind);have L:cf ((y::T).map fun x=>(kI x,f x)) (kI x)=cf (T.map fun x=>(kI x,f x)) (kI x):=by
    simp only[cf,Yx]
    grind
   rw[L];exact ih
theorem Pa(T:List Nat)(f:Nat->D):oI (.dic (T.map fun x=>(kI x,f x)))=some (T.map nD):=by show some _=_;rw[r_];rfl
theorem Pc(h:f r=.ok d)(L:oI d=some ds):aV oI f r=.ok ds:=by unfold aV;rw[h,bind_ok,L];rfl
theorem MZ{f:Nat->D}(h:x∉T)(L:T.length<=1000):eB (.dic (T.map fun x=>(kI x,f x))) (nD x) (f x)=some (.dic ((T++[x]).map fun x=>(kI x,f x))):=by
 show(if (T.map fun x=>(kI x,f x)).length<sizeLine then some _ else none)=_;rw[Q_e (by rw[b_,O_];omega)];have:=QS (T.map fun y=>(y,f y)) x (f x) (by simp_all);rw[r_]at this;have e:eZ (T.map fun x=>(kI x,f x)) (kI x) (f x)=(T++[x]).map fun x=>(kI x,f x):=by refine Eq.trans this ?_;rw[M_,r_,M_];rfl
 rw[e]
theorem VJ{L:Type}(p:L->Bool)(l:List L):anyD [.lst (l.map fun x=>D.bl (p x))]=some (.bl ((l.map p).any id)):=by show(iT _).map _=_;rw[vJ];rfl
theorem oy(h:x<n):aF (.tup ((d_ n).map f)) (nD x)=some (f x):=by refine hZ ?_;simp_all
abbrev SD(E:Nat->List Nat)(n:Nat):D:=.dic ((d_ n).map fun x=>(kI x,LN (E x)))
structure Gf(E:Nat->List Nat)(n:Nat):Prop where
 n1:1<=n
 n7:n<=7
 lt:∀x,x<n->∀y∈E x,y<n
 few:∀x,x<n->(E x).length<=60
section
variable{E:Nat->List Nat}{n:Nat}
theorem Lp(h:x<n):aF (SD E n) (nD x)=some (LN (E x)):=Vp (FL _ (n_.mpr h))
end
open PySem PyProof.Rows L2 DL Fq
structure Sq(rows:List (List Nat))(n:Nat):Prop where
 n1:1<=n
 n7:n<=7
 rl:rows.length=n
 rp:∀row∈rows,row.Perm (d_ n)
abbrev TB(tb:Nat->Nat->Int×Nat)(n:Nat):D:=.tup ((d_ n).map fun h=>TF ((d_ n).map (tb h)))
def Tok(tb:Nat->Nat->Int×Nat)(n:Nat):Prop:=∀h,h<n->∀x,x<n->Bd 80 (tb h x)
section
variable{rows:List (List Nat)}{n:Nat}{tb:Nat->Nat->Int×Nat}
theorem Sq.row(R:Sq rows n)(L:h<n):(Wr rows h).Perm (d_ n):=by unfold Wr;rw[g_ (by rw[R.rl];exact L)];exact R.rp _ (Zv _)
theorem Sq.has(R:Sq rows n)(U:h<n)(L:x<n):x∈Wr rows h:=(R.row U).mem_iff.mpr (n_.mpr L)
theorem Sq.len(R:Sq rows n):lenD [WD rows]=some (nD n):=by rw[sI,R.rl]
theorem Sq.at(R:Sq rows n)(L:h<n):aF (WD rows) (nD h)=some (TN (Wr rows h)):=hZ (Ni (by rw[R.rl];exact L))
theorem Sq.map(R:Sq rows n):rows=(d_ n).map (Wr rows):=by
 refine Ĭ fun i=>?_;rw[l_];by_cases L:i<n
 .rw[Y_ L,g_ (by rw[R.rl];exact L)];unfold Wr;rw[Ŗ,g_ (by rw[R.rl];exact L)];rfl
 .rw[Zn (by rw[R.rl];omega),Zn (by simp;omega)];rfl
theorem xE(L:x<n):aF (TF ((d_ n).map (tb h))) (nD x)=some (FR (tb h x)):=by refine hZ ?_;rw[l_,l_,Y_ L];rfl
theorem Sz(R:Sq rows n)(L:h<n)(Y:x<n)(U:y<n):Gw [WD rows,nD h,nD x,nD y]=.ok (.bl (decide ((Wr rows h).idxOf x<(Wr rows h).idxOf y))):=by refine cU ?_;refine(ao (aM (aj rfl rfl (R.at L)))).trans ?_;exact aE (a9 (aj (oh rfl rfl (ae rfl ah) (sE (R.has L Y))) (oh rfl rfl (ae rfl ah) (sE (R.has L U))) (lQ _ _)))
theorem IA(hq:Bd k q)(L:k<=2000):gM [.tup [.int 0,.int 1],FR q]=.ok (.bl (decide (0<q.1))):=by refine cU ?_;have a:=ip (0,1);have Z:=iX (0,1);have Y:=ip q;have U:=iX q;refine aE (a9 (aj (aj (aj rfl rfl a) (aj rfl rfl U) (i5 (k:=1) (by decide) (by exact hq.bot) (by omega) L)) (aj (aj rfl rfl Y) (aj rfl rfl Z) (i5 (l:=1) hq.top (by decide) L (by omega))) ?_));show some _=_;simp_all
variable(rows)(tb)in
def ig(h o t:Nat):Bool:=decide ((Wr rows h).idxOf o<(Wr rows h).idxOf t)
def lJ(tb:Nat->Nat->Int×Nat)(h t:Nat):Bool:=decide (0<(tb h t).1)
def jx(rows:List (List Nat))(tb:Nat->Nat->Int×Nat)(n t o:Nat):List Nat:=((d_ n).filter fun h=>lJ tb h t).filter fun h=>ig rows h o t
def Eg(rows:List (List Nat))(tb:Nat->Nat->Int×Nat)(n t:Nat):List Nat:=(d_ n).filter fun o=>!(jx rows tb n t o).isEmpty
theorem wW:o∈Eg rows tb n t↔o<n/\∃h,h<n/\0<(tb h t).1/\(Wr rows h).idxOf o<(Wr rows h).idxOf t:=by
 unfold Eg;rw[List.mem_filter,n_];refine and_congr_right fun _=>?_;constructor
 .intro h;cases e:jx rows tb n t o with
 |nil=>simp_all
 |cons q l=>
   have Y:q∈jx rows tb n t o:=by simp_all
   have U:=Zp.mp Y;have L:=Zp.mp U.1;exact⟨q,n_.mp L.1,by simpa[lJ]using L.2,by simpa[ig]using U.2⟩
 .rintro⟨q,U,L,h3⟩
  have Y:q∈jx rows tb n t o:=Zp.mpr ⟨Zp.mpr ⟨n_.mpr U,by simpa[lJ]using L⟩,by simpa[ig]using h3⟩
  grind
theorem VF(R:Sq rows n):Gf (Eg rows tb n) n:=⟨R.n1,R.n7,fun x _ y L=>(wW.mp L).1,fun x _=>by
 have:(Eg rows tb n x).length<=n:=by
  unfold Eg
  grind
 have:=R.n7;omega⟩
theorem Ib(R:Sq rows n)(T:Tok tb n)(Y:t<n)(c:o<n):p4 [WD rows,TB tb n,nD t,nD o]=.ok (LN (jx rows tb n t o)):=by
 have U:=R.n7;refine dz (n:=5) ?_
 dsimp only[KA,Bx]
 refine(ao (aM (d:=LN ((d_ n).filter fun h=>lJ tb h t)) (l0 (l:=d_ n) nD (fun h=>lJ tb h t) nD (fX (ae (aS (ae (d:=WD rows) rfl ah) R.len) ah) (fW (by omega))) (by simp;omega) fun h Z=>⟨[some (nD h),some (nD t),some (TB tb n)],rfl,?_,fun _=>rfl⟩))).trans ?_
 .have L:=n_.mp Z;exact bU (aD (ae (d:=.tup [.int 0,.int 1]) rfl (ae (aj (b:=nD t) (aj (a:=TB tb n) (b:=nD h) rfl rfl (oy L)) rfl (xE Y)) ah)) (IA (T h L t Y) (by decide))) rfl
 refine aE (a9 (l0 (l:=(d_ n).filter fun h=>lJ tb h t) nD (fun h=>ig rows h o t) nD rfl (by grind) fun h Z=>⟨[some (nD h),some (WD rows),some (nD o),some (nD t)],rfl,?_,fun _=>rfl⟩));have L:=n_.mp (Zp.mp Z).1;exact bU (aD (ae (d:=WD rows) rfl (ae (d:=nD h) rfl (ae (d:=nD o) rfl (ae (d:=nD t) rfl ah)))) (Sz R L c Y)) rfl
theorem Hm(R:Sq rows n)(T:Tok tb n):∀(l Y:List Nat)(x:Option D),Y++l=d_ n->∃y,aZ (aw 4) TL (l.map nD) [some (WD rows),some (TB tb n),some (LN (d_ n)),some (.dic (Y.map fun x=>(kI x,LN (Eg rows tb n x)))),x]=.nx [some (WD rows),some (TB tb n),some (LN (d_ n)),some (SD (Eg rows tb n) n),y]
|[],Y,x,h=>⟨x,by rw[Ú]at h;subst h;exact fq⟩
|t::l,Y,x,h=>by
  have U:=R.n7;obtain⟨y,b⟩:=Hm R T l (Y++[t]) (some (nD t)) (by rw[<-h];simp);refine⟨y,?_⟩;have c:t<n:=n_.mp (by rw[<-h];simp);have Z:(Y++t::l).Nodup:=by rw[h];exact Ù
  have L:t∉Y:=fun z=>(List.nodup_append.mp Z).2.2 t z t m_ rfl;have a:Y.length+l.length+1=n:=by have:=Q_h Z5 h;simp at this;omega
  rw[Yx,<-b];refine dL (r1:=[some (WD rows),some (TB tb n),some (LN (d_ n)),some (.dic (Y.map fun x=>(kI x,LN (Eg rows tb n x)))),some (nD t)]) rfl ?_;refine ao (jk (d:=.dic (Y.map fun x=>(kI x,LN (Eg rows tb n x)))) (k:=nD t) (v:=LN (Eg rows tb n t)) rfl (l0 (l:=d_ n) nD (fun o=>!(jx rows tb n t o).isEmpty) nD rfl (by simp;omega) fun o e=>⟨[some (nD o),some (WD rows),some (TB tb n),some (nD t)],rfl,?_,fun _=>rfl⟩) rfl (MZ (f:=fun x=>LN (Eg rows tb n x)) L (by omega)));refine bU (aD (ae (d:=WD rows) rfl (ae (d:=TB tb n) rfl (ae (d:=nD t) rfl (ae (d:=nD o) rfl ah)))) (Ib R T c (n_.mp e))) ?_;show some (!((jx rows tb n t o).map nD).isEmpty)=_;rw[List.isEmpty_map]
theorem Sn(R:Sq rows n)(T:Tok tb n):Jg [WD rows,TB tb n]=.ok (SD (Eg rows tb n) n):=by
 have L:=R.n7;obtain⟨y,h⟩:=Hm R T (d_ n) [] none rfl;refine dz (n:=5) ?_
 dsimp only[Jd,zR]
 refine(ao (aM (d:=LN (d_ n)) (aS (ae (aS (ae (d:=TB tb n) rfl ah) (by rw[sI,Yv])) ah) (GS (by omega))))).trans ?_;refine(ao (aM (d:=.dic []) rfl)).trans ?_;refine(ao ((dg (eQ (d:=LN (d_ n)) rfl rfl)).trans h)).trans ?_;exact aE (a9 (d:=SD (Eg rows tb n) n) rfl)
end
end
end Law
namespace Law
open PySem PyProof.Rows L2 DL Fq Bk
theorem pi(L:am->Prop){U:Type}(e:U->D)(p:U->Bool):∀(l:List U),(∀a∈l,∀r,L r->∃r1,ft (e a) r=some r1/\(p a=true->∃r',L r'/\b r1=.nx r')/\(p a=false->b r1=.rt (.bl false)))->∀r,L r ->(l.all p=true->∃r',L r'/\aZ ft b (l.map e) r=.nx r')/\(l.all p=false->aZ ft b (l.map e) r=.rt (.bl false))
|[],_,r,i=>⟨fun _=>⟨r,i,fq⟩,fun h=>nomatch h⟩
|a::l,h,r,i=>by obtain⟨r1,Y,n,m⟩:=h a m_ r i;have Z:=pi L e p l fun a j=>h a (k_ _ j);rw[ĝ];cases k:p a with
 |false=>exact⟨(fun z=>by cases z),fun _=>wH Y (m k)⟩
 |true=>obtain⟨r',c,d⟩:=n k;rw[Zh];exact⟨fun z=>let⟨f,g,o⟩:=(Z r' c).1 z;⟨f,g,(dL Y d).trans o⟩,fun z=>(dL Y d).trans ((Z r' c).2 z)⟩
abbrev Ta(n N:Nat)(A:Nat->Nat->Nat):D:=TB (fun h x=>lo N (A h x)) n
theorem EI(n N:Nat)(A:Nat->Nat->Nat):VQ true n N A=Ta n N A:=by show D.tup _=D.tup _;congr 1;refine X_ fun h _=>?_;show D.tup _=D.tup _;rw[r_];rfl
variable{n N:Nat}{A:Nat->Nat->Nat}{rows:List (List Nat)}
theorem Pp(hN:Nn N)(L:c<=N):kn [Qn N c]=.ok (.bl true):=by
 have b:=lj hN L;show kn [FR (lo N c)]=_;generalize lo N c=q at b;refine dz (n:=1) ?_
 dsimp only[AX,sY]
 have w:∀i:Int,lE [.int i]=.ok (.bl true):=fun i=>rfl;refine(ao ((aJ ?_).trans (e_skip _))).trans ?_
 .refine(aQ (cp (b:=true) (bU (d:=.bl true) (fU (a:=FR q) rfl rfl) rfl))).trans ?_;exact bW (aj (aS (ae (d:=FR q) rfl ah) rfl) rfl (nc 2 2))
 refine aE (a9 ?_);refine(fB (aD (ae (aj (a:=FR q) rfl rfl (ip q)) ah) (w _))).trans ?_;refine(fB (aD (ae (aj (a:=FR q) rfl rfl (iX q)) ah) (w _))).trans ?_;refine aj (aj (a:=FR q) rfl rfl (iX q)) rfl ((qX q.2 0).trans ?_);rw[Q_d b.pos]
theorem Pi(hN:Nn N)(L:c<=N):gM [Qn N c,.tup [.int 0,.int 1]]=.ok (.bl false):=by have:=E3 hN L (YQ N);rw[show Qn N 0=.tup [.int 0,.int 1]by show FR _=_;rw[qF hN];rfl,Q_c (Ņ _)]at this;exact this
theorem xA(f:Nat->Nat):∀n,((d_ n).map f).sum=sm n f
|0=>rfl
|n+1=>by rw[Ĝ,M_,List.sum_append,xA f n,jw];simp
abbrev Tr(n N:Nat)(A:Nat->Nat->Nat)(h:Nat):D:=TF ((d_ n).map fun x=>lo N (A h x))
theorem EY(hN:Nn N)(hs:sm n f=N)(t:Bool):lA [wr t ((d_ n).map fun x=>Qn N (f x))]=.ok (.tup [.int 1,.int 1]):=by have e:=So hN (d0:=wr t ((d_ n).map fun x=>Qn N _)) (l:=(d_ n).map f) (by rw[xA];omega) (by rw[jV,r_];rfl);rw[xA,hs]at e;refine e.trans ?_;show Res.ok (FR _)=_;rw[DA hN];rfl
theorem Nj(hN:Nn N)(p:n<=60)(g:∀x,x<n->A h x<=N)(hs:sm n (A h)=N):Cq [Tr n N A h,nD n]=.ok (.bl true):=by
 have o:Tr n N A h=.tup ((d_ n).map fun x=>Qn N (A h x)):=by simp_all
 rw[o];generalize Z:D.tup _=R;have L:bQ R=some ((d_ n).map fun x=>Qn N (A h x)):=by rw[<-Z];rfl
 have Y:lenD [R]=some (nD n):=by rw[<-Z];show some _=_;simp_all
 have j:lA [R]=.ok (.tup [.int 1,.int 1]):=by rw[<-Z];exact EY hN hs true
 have m:mK "list" "tuple" R=some (.bl true):=by rw[<-Z];rfl
 refine dz (n:=2) ?_
 dsimp only[KM,B6]
 refine(ao ((aJ ?_).trans (e_skip _))).trans ?_
 .refine(aQ (cp (b:=true) (bU (d:=.bl true) (fU (a:=R) rfl m) rfl))).trans ?_;have e:=nc n n;rw[Q_d rfl]at e;refine(aQ (bW (aj (aS (ae (d:=R) rfl ah) Y) rfl e))).trans ?_;have c:=dh (nl:=1) (cap:=[]) (fi:=aV bQ (gv 0)) (ft:=aw 0) (fe:=bx (ak (gv 0) ag) [] kn) (r:=bP 2 [R,nD n]) (l:=d_ n) _ (fun _=>.bl true) (eQ (d:=R) rfl L) (by simp;omega) fun x f=>⟨_,rfl,aD (ae rfl ah) (Pp hN (g x (n_.mp f)))⟩
  refine cp (b:=true) (bU (aS (ae c ah) (lf (fun _=>true) (d_ n))) ?_);rw[Yy.mpr fun _ _=>rfl];rfl
 refine aE (a9 ?_);have c:=dh (nl:=1) (cap:=[]) (fi:=aV bQ (gv 0)) (ft:=aw 0) (fe:=bx (ak (gv 0) (ak (fun _=>Res.ok (D.tup [D.int 0,D.int 1])) ag)) [] gM) (r:=[some R,some (nD n)]) (l:=d_ n) _ (fun _=>.bl false) (eQ (d:=R) rfl L) (by simp;omega) fun x f=>⟨_,rfl,aD (ae rfl (ae rfl ah)) (Pi hN (g x (n_.mp f)))⟩
 have i:=aS (k:=anyD) (ae c ah) (VJ (fun _=>false) (d_ n));have U:((d_ n).map fun _=>false).any id=false:=by simp_all
 rw[U]at i;refine(fB (G6 i)).trans ?_;exact aj (aD (ae (d:=R) rfl ah) j) rfl (FC (1,1) (1,1))
theorem oX(n N:Nat)(A:Nat->Nat->Nat):lenD [Ta n N A]=some (nD n):=by show some _=_;simp_all
theorem Hc(hN:Nn N)(d:n<=60)(c:∀h x,h<n->x<n->A h x<=N)(hs:∀h,h<n->sm n (A h)=N):∀(l:List Nat)(i:Nat)(Z Y:Option D),(∀t∈l,t<n) ->∃L U,aZ (cE (ba (aw 1) (ba (aw 2) cD))) UT (cB i (l.map fun h=>Tr n N A h)) [some (Ta n N A),Z,Y]=.nx [some (Ta n N A),L,U]
|[],i,Z,Y,_=>⟨Z,Y,fq⟩
|t::l,i,Z,Y,h=>by obtain⟨L,U,e⟩:=Hc hN d c hs l (i+1) (some (nD i)) (some (Tr n N A t)) fun t a=>h t (k_ _ a);have a:=h t m_;refine⟨L,U,(dL rfl ?_).trans e⟩;exact ao ((aJ (cp (b:=true) (bU (aD (ae rfl (ae (aS (ae rfl ah) (oX n N A)) ah)) (Nj hN d (fun x f=>c t x a f) (hs t a))) rfl))).trans (e_skip _))
theorem oB(L:x<n):aF (Tr n N A h) (nD x)=some (Qn N (A h x)):=xE (tb:=fun h x=>lo N (A h x)) L
theorem Hb(hN:Nn N)(d:n<=60)(hs:∀j,j<n->sm n (fun i=>A i j)=N):∀(l:List Nat)(Y U:Option D),(∀j∈l,j<n) ->∃L,aZ (aw 1) UU (l.map nD) [some (Ta n N A),Y,U]=.nx [some (Ta n N A),L,U]
|[],Y,U,_=>⟨Y,fq⟩
|j::l,Y,U,h=>by
  obtain⟨L,a⟩:=Hb hN d hs l _ U fun t b=>h t (k_ _ b);refine⟨L,(dL rfl ?_).trans a⟩;have Z:=h j m_;have c:=dh (nl:=1) (cap:=[1]) (fi:=aV bQ (gv 0)) (ft:=aw 0) (fe:=f2 (gv 0) (gv 1) aF) (r:=[some (Ta n N A),some _,U]) _ _ rfl (by simp;omega) fun t _=>⟨_,rfl,aj rfl rfl (oB Z)⟩
  exact ao ((aJ (bW (aj (aD (ae c ah) (EY hN (hs j Z) false)) rfl (L6 (1,1) (1,1))))).trans (e_skip _))
theorem QC(hN:Nn N)(L:n<=60)(b:∀h x,h<n->x<n->A h x<=N)(d:DS n A N):Kj [Ta n N A]=.ok .non:=by obtain⟨Y,U,e⟩:=Hc hN L b d.row _ 0 none none fun t Z=>n_.mp Z;obtain⟨f,c⟩:=Hb hN L d.col _ Y U fun j a=>n_.mp a;refine cU ?_;refine(ao ((dg (by exact(by rfl))).trans e)).trans ?_;refine(ao ((dg (fX (ae (aS (ae rfl ah) (oX n N A)) ah) (fW (by omega)))).trans c)).trans ?_;exact aE (a9 rfl)
theorem yK(R:Sq rows n)(hN:Nn N)(Z:∀h x,h<n->x<n->A h x<=N)(d:DS n A N):pJ [WD rows,Ta n N A]=.ok (.bl true):=by
 have a:=R.n7;have U:=R.n1;have L:=jR n n;rw[Q_d rfl]at L;have e:Jv [WD rows]=.ok (.bl true):=by
  refine cU (n:=1) ?_
  dsimp only[Jq,zM]
  have Y:Jw [WD rows]=.ok (nD n):=by
   refine cU (n:=1) ?_
   dsimp only[Jt,zN]
   refine aE (a9 (aS (ae (aj rfl rfl (R.at U)) ah) ?_));rw[sI,(R.row U).length_eq,Yv]
  exact aE (a9 (aj (aD (ae rfl ah) Y) (aS (ae rfl ah) R.len) L))
 refine cU (n:=2) ?_
 dsimp only[Jc,zQ]
 refine aE (a9 ?_);refine(fB (aD (ae rfl ah) e)).trans ?_;refine(fB (aj (aS (ae rfl ah) (oX n N A)) (aS (ae rfl ah) R.len) L)).trans ?_;exact aj (aD (ae rfl ah) (QC hN (by omega) Z d)) rfl rfl
theorem Gb{i:Nat}(h:i<l.length):kz (TN l) none (some (i:Int))=some (TN (l.take i)):=by show(if _ then none else some _)=_;rw[Q_f (by rw[HT.cA,b_];omega)];unfold aT;rw[HT.cA,HT.cx,b_,Qdi (by omega),ı,ň,<-Û]
def gI(hs:List Int)(i:Nat):Int:=hs.getD i 0
theorem oz(h:i<hs.length):aF (WI t hs) (nD i)=some (.int (gI hs i)):=by refine m8 ?_;unfold gI;simp_all
variable{tb:Nat->Nat->Int×Nat}{hs:List Int}
abbrev mD(rows:List (List Nat))(tb:Nat->Nat->Int×Nat)(n:Nat)(hs:List Int):Bool:=(d_ n).all fun t=>(Eg rows tb n t).all fun o=>decide (gI hs t<gI hs o)
abbrev DF(rows:List (List Nat))(tb:Nat->Nat->Int×Nat)(n:Nat)(hs:List Int):Bool:=decide (hs.length=n)&&(hs.all (fun x=>decide (0<=x))&&mD rows tb n hs)
theorem tbl(tb:Nat->Nat->Int×Nat)(n:Nat):lenD [TB tb n]=some (nD n):=by show some _=_;simp_all
theorem Qj(g:Gf (Eg rows tb n) n)(a:hs.length=n)(L:t<n):Bc [SD (Eg rows tb n) n,WI b hs,nD t]=.ok (.bl ((Eg rows tb n t).all fun o=>decide (gI hs t<gI hs o))):=by
 refine cU ?_;have U:=g.lt t L;have Y:=g.few t L;have c:=dh (nl:=1) (cap:=[1,2]) (fi:=aV bQ (f2 (gv 0) (gv 2) aF)) (ft:=aw 0) (fe:=f2 (f2 (gv 1) (gv 0) aF) (f2 (gv 1) (gv 2) aF) jd) (r:=bP 3 [SD (Eg rows tb n) n,WI b hs,nD t]) nD _ (eQ (aj rfl rfl (Lp L)) rfl) (by omega)
  fun o Z=>⟨_,rfl,aj (aj rfl rfl (oz (by simp_all))) (aj rfl rfl (oz (by omega))) rfl⟩
 exact aE (a9 (aS (ae c ah) (lf _ _)))
theorem U0(R:Sq rows n)(T:Tok tb n)(b:Bool)(g:hs.length<=60):BE [WD rows,TB tb n,WI b hs]=.ok (.bl (DF rows tb n hs)):=by
 have h:=R.n7;refine dz (n:=4) ?_
 dsimp only[J6,AQ]
 have L:lenD [WI b hs]=some (nD hs.length):=by rw[h8,b_]
 have e:=nc hs.length n;by_cases U:hs.length=n
 .rw[Q_d U]at e;have c:=dh (nl:=1) (cap:=[]) (fi:=aV bQ (gv 2)) (ft:=aw 0) (fe:=gO (bx (ak (gv 0) ag) [] lE) (f2 (gv 0) (ci 0) n0)) (r:=bP 4 [WD rows,TB tb n,WI b hs]) (l:=hs) D.int (fun x=>.bl (decide (0<=x))) (eQ (d:=WI b hs) rfl (jV b _)) (by omega)
   fun x _=>⟨[some (.int x)],rfl,(fB (aD (ae rfl ah) rfl)).trans (aj rfl rfl rfl)⟩
  have Z:=bU (aS (ae c ah) (lf _ hs)) rfl;show _=Out.rt (.bl (decide (hs.length=n)&&_));rw[Q_d U,Zh];cases Y:hs.all (fun x=>decide (0<=x))with
 |false=>exact aE ((aI ((aQ (bW (aj (aS (ae (d:=WI b hs) rfl ah) L) (aS (ae (d:=TB tb n) rfl ah) (tbl tb n)) e))).trans ((cp Z).trans (by rw[Y];rfl)))).trans (aE (a9 rfl)))
 |true=>
   refine(ao ((aJ ((aQ (bW (aj (aS (ae (d:=WI b hs) rfl ah) L) (aS (ae (d:=TB tb n) rfl ah) (tbl tb n)) e))).trans ((cp Z).trans (by rw[Y];rfl)))).trans (e_skip _))).trans ?_;refine(ao (aM (aD (ae rfl (ae rfl ah)) (Sn R T)))).trans ?_;have f:=dh (nl:=1) (cap:=[3,2]) (fi:=aV oI (gv 3)) (ft:=aw 0) (fe:=bx (ak (gv 1) (ak (gv 2) (ak (gv 0) ag))) [] Bc) (r:=[some (WD rows),some (TB tb n),some (WI b hs),some (SD (Eg rows tb n) n)]) (l:=d_ n) nD _ (Pc rfl (Pa _ _)) (by simp;omega)
    fun t a=>⟨_,rfl,aD (ae rfl (ae rfl (ae rfl ah))) (Qj (VF R) U (n_.mp a))⟩
   exact aE (a9 (aS (ae f ah) (lf _ _)))
 .rw[Q_c U]at e;show _=Out.rt (.bl (decide (hs.length=n)&&_));rw[Q_c U,Qfk];exact aE ((aI (cG (bW (aj (aS (ae (d:=WI b hs) rfl ah) L) (aS (ae (d:=TB tb n) rfl ah) (tbl tb n)) e)))).trans (aE (a9 rfl)))
def q0(rows:List (List Nat))(tb:Nat->Nat->Int×Nat)(hs:List Int)(h i o:Nat):Bool:=!(decide (0<(tb h (dA (Wr rows h) i)).1)&&decide (gI hs o<=gI hs (dA (Wr rows h) i)))
def q1(rows:List (List Nat))(tb:Nat->Nat->Int×Nat)(n:Nat)(hs:List Int):Bool:=(d_ n).all fun h=>(d_ n).all fun i=>((Wr rows h).take i).all (q0 rows tb hs h i)
theorem q_eq(R:Sq rows n):q1 rows tb n hs=mD rows tb n hs:=by
 rw[YG];unfold q1 mD q0;simp only[Yy,n_,č,Bool.and_eq_false_iff,decide_eq_false_iff_not,Q_k];have c:∀{h i:Nat},h<n->i<n->dA (Wr rows h) i<n/\(Wr rows h)[i]? = some (dA (Wr rows h) i)/\(Wr rows h).idxOf (dA (Wr rows h) i)=i:=fun{h i} hh hi=>by
  have Y:=R.row hh;have f:i<(Wr rows h).length:=by rw[Y.length_eq];simpa using hi
  have e:=iW f;refine⟨n_.mp (Y.mem_iff.mp (YV e)),e,?_⟩;have d:(Wr rows h).Nodup:=Y.nodup_iff.mpr Ù
  grind
 constructor
 .intro H t ht o ho;obtain⟨ho,h,hh,Y,hi⟩:=wW.mp ho;have a:t∈Wr rows h:=R.has hh ht;have b:(Wr rows h).idxOf t<n:=by have:=Z2 a;rw[(R.row hh).length_eq]at this;simpa using this
  have m:dA (Wr rows h) ((Wr rows h).idxOf t)=t:=by
   have e:=(c hh b).2.1;rw[g_ (Z2 a),Qec]at e
   grind
  have Z:o∈(Wr rows h).take ((Wr rows h).idxOf t):=by
   have U:=R.has hh ho;rw[Qcl];refine⟨(Wr rows h).idxOf o,?_,Qec _⟩
   grind
  grind
 .intro H h hh i hi o ho;obtain⟨k,q,g⟩:=c hh hi;by_cases Y:0<(tb h (dA (Wr rows h) i)).1
  .right;have a:=ī ho;have Z:o<n:=n_.mp ((R.row hh).mem_iff.mp a);have L:(Wr rows h).idxOf o<i:=by
    obtain⟨j,l,p⟩:=Qcl.mp ho;have d:(Wr rows h).Nodup:=(R.row hh).nodup_iff.mpr Ù
    grind
   have:=H _ k o (wW.mpr ⟨Z,h,hh,Y,by rw[g];exact L⟩);omega
  .exact .inl Y
theorem Ld(R:Sq rows n)(Z:h<n)(Y:i<n):aF (TN (Wr rows h)) (nD i)=some (nD (dA (Wr rows h) i))/\dA (Wr rows h) i<n:=by
 have L:=R.row Z;have U:i<(Wr rows h).length:=by rw[L.length_eq];simpa using Y
 exact⟨hZ (by rw[l_,iW U];rfl),n_.mp (L.mem_iff.mp (YV (iW U)))⟩
abbrev sH(rows:List (List Nat))(tb:Nat->Nat->Int×Nat)(n:Nat)(hs:List Int)(l:am):am:=some (WD rows)::some (TB tb n)::some (WI false hs)::l
abbrev Rw(tb:Nat->Nat->Int×Nat)(n h:Nat):D:=TF ((d_ n).map (tb h))
theorem V0(R:Sq rows n)(j:hs.length=n)(d:h<n)(c:i<n)(g:o<n):(q0 rows tb hs h i o=true->uG (sH rows tb n hs [some (TN (Wr rows h)),some (Rw tb n h),some (nD i),some (nD o)])=.nx (sH rows tb n hs [some (TN (Wr rows h)),some (Rw tb n h),some (nD i),some (nD o)])) /\(q0 rows tb hs h i o=false->uG (sH rows tb n hs [some (TN (Wr rows h)),some (Rw tb n h),some (nD i),some (nD o)])=.rt (.bl false)):=by obtain⟨Z,f⟩:=Ld R d c;unfold q0;have U:∀{b:Bool},decide _=b->bj (f2 (f2 (f2 (gv 4) (f2 (gv 3) (gv 5) aF) aF) (fun _=>Res.ok _) aF) (ci 0) jd) (sH rows tb n hs [some _,some (Rw tb n h),some (nD i),some (nD o)])=.ok b:=fun{b} e=>bW (aj (aj (aj rfl (aj rfl rfl Z) (xE f)) rfl (ip _)) rfl (by rw[<-e];rfl));have a:∀{b:Bool},decide _=b->bj (f2 (f2 (gv 2) (gv 6) aF) (f2 (gv 2) (f2 (gv 3) (gv 5) aF) aF) ii) (sH rows tb n hs [some _,some (Rw tb n h),some _,some (nD o)])=.ok b:=fun{b} e=>bW (aj (aj rfl rfl (oz (by omega))) (aj rfl (aj rfl rfl Z) (oz (by omega))) (by rw[<-e];rfl));cases L:decide (0<(tb h _).1)with
|false=>exact⟨fun _=>ao ((aJ (vH (U L))).trans (e_skip _)),fun z=>by simp_all⟩
|true=>cases Y:decide (gI hs o<=gI hs _)with
 |false=>exact⟨fun _=>ao ((aJ ((rh (U L)).trans (a Y))).trans (e_skip _)),fun z=>by cases z⟩
 |true=>exact⟨by simp_all,fun _=>aE ((aI ((rh (U L)).trans (a Y))).trans (aE (a9 rfl)))⟩
theorem Ua(R:Sq rows n)(N:hs.length<=60):Co [WD rows,TB tb n,WI false hs]=.ok (.bl (DF rows tb n hs)):=by
 have O:=R.n7;have P:=R.n1;refine dz (n:=7) ?_
 dsimp only[KL,B4]
 have Z:lenD [WI false hs]=some (nD hs.length):=by rw[h8,b_]
 have e:=nc hs.length n;show _=Out.rt (.bl (decide (hs.length=n)&&_));by_cases j:hs.length=n
 .rw[Q_d j]at e;rw[Q_d j,Zh];have K:rM [WI false hs]=some (.int (gU hs)):=by cases hs with
  |nil=>grind
  |cons x l=>
    show(cP ((x::l).map D.int)).map _=_;have:∀l:List Int,cP (l.map D.int)=some l:=fun l=>by induction l with
    |nil=>rfl
    |cons a l H=>show(cP (l.map D.int)).map _=_;rw[H];rfl
    rw[this];rfl
  have u:hs≠[]:=by grind
  have I:decide (gU hs<0) = ! hs.all (fun x=>decide (0<=x)):=by
   rw[YG,Q_i,č,<-Bool.not_eq_true,Yy];refine⟨fun z y=>?_,fun z=>?_⟩
   .have:=Q_j (y _ (Q4 u));omega
   .apply Zl;intro y;exact z fun x J=>Q_d (by have:=OU J;omega)
  have L:∀{b:Bool},hs.all _=b->gz (bj (f2 (fC (ak (gv 2) ag) lenD) (fC (ak (gv 0) ag) lenD) neD)) (bj (f2 (fC (ak (gv 2) ag) rM) (ci 0) ltI)) (sH rows tb n hs [none,none,none,none])=.ok (! b):=fun{b} hb=>(aQ (bW (aj (aS (ae rfl ah) Z) (aS (ae (d:=WD rows) rfl ah) R.len) e))).trans (bW (aj (aS (ae rfl ah) K) rfl (by rw[<-hb,<-I];rfl)));cases E:hs.all _ with
 |false=>exact aE ((aI (L E)).trans (aE (a9 rfl)))
 |true=>
   refine(ao ((aJ (L E)).trans (e_skip _))).trans ?_;rw[Zh,<-q_eq R];have U:È (fun a b=>D.tup [a,b]) (rows.map TN) ((d_ n).map fun h=>Rw tb n h)=(d_ n).map fun h=>D.tup [TN (Wr rows h),Rw tb n h]:=by
    conv=>lhs;rw[R.map]
    rw[r_,QeN,QeB];rfl
   have g:=pi (ft:=cE (ba (aw 3) (ba (aw 4) cD))) (b:=Vc) (fun r=>∃a b c d,r=sH rows tb n hs [a,b,c,d]) (fun h=>D.tup [TN (Wr rows h),Rw tb n h]) _ (d_ n) (fun h f r ⟨a,b,c,d,k⟩=>by
    subst k;have f:=n_.mp f;refine⟨_,rfl,?_⟩;have A:=pi (ft:=aw 5) (b:=KR) (fun r=>∃c d,r=sH rows tb n hs [some (TN (Wr rows h)),some (Rw tb n h),c,d]) nD _ (d_ n) (fun i q r ⟨c,d,k⟩=>by
     subst k;have q:=n_.mp q;refine⟨_,rfl,?_⟩;have s:i<(Wr rows h).length:=by rw[(R.row f).length_eq];simpa using q
     have B:=pi (ft:=aw 6) (b:=uG) (fun r=>∃d,r=sH rows tb n hs [some (TN (Wr rows h)),some (Rw tb n h),some (nD i),d]) nD _ ((Wr rows h).take i) (fun o t r ⟨d,k⟩=>by subst k;have t:o<n:=n_.mp ((R.row f).mem_iff.mp (ī t));obtain⟨G,F⟩:=V0 (tb:=tb) R j f q t;exact⟨_,rfl,fun z=>⟨_,⟨_,rfl⟩,G z⟩,F⟩) _ ⟨d,rfl⟩;have Y:aV bQ (j6 (gv 3) (fun _=>Res.ok none) (li (gv 5))) (sH rows tb n hs [some (TN (Wr rows h)),some (Rw tb n h),some (nD i),d])=.ok _:=eQ (fV rfl rfl rfl (Gb s)) rfl;exact⟨fun z=>let⟨p,⟨w,v⟩,m⟩:=B.1 z;⟨p,⟨_,w,v⟩,ao ((dg Y).trans m)⟩,fun z=>aE ((dg Y).trans (B.2 z))⟩) _ ⟨c,d,rfl⟩
    have Y:cZ cR (ak (fC (ak (gv 3) ag) lenD) ag) (sH rows tb n hs [some (TN (Wr rows h)),some (Rw tb n h),c,d])=.ok ((d_ n).map nD):=fX (ae (aS (ae rfl ah) (by rw[sI,(R.row f).length_eq,Yv])) ah) (fW (by omega));exact⟨fun z=>let⟨p,⟨M,w,v⟩,m⟩:=A.1 z;⟨p,⟨_,_,M,w,v⟩,ao ((dg Y).trans m)⟩,fun z=>aE ((dg Y).trans (A.2 z))⟩) (sH rows tb n hs [none,none,none,none]) ⟨_,_,_,_,rfl⟩
   have Y:gY (gv 0) (gv 1) (sH rows tb n hs [none,none,none,none])=.ok ((d_ n).map fun h=>D.tup [TN (Wr rows h),Rw tb n h]):=by rw[<-U];exact zm (d:=WD rows) rfl rfl rfl rfl
   cases C:q1 rows tb n hs with
  |false=>exact aE ((dg Y).trans (g.2 C))
  |true=>obtain⟨p,⟨a,b,c,d,rfl⟩,m⟩:=g.1 C;exact(ao ((dg Y).trans m)).trans (aE (a9 rfl))
 .rw[Q_c j]at e;rw[Q_c j,Qfk];exact aE ((aI (cG (bW (aj (aS (ae rfl ah) Z) (aS (ae (d:=WD rows) rfl ah) R.len) e)))).trans (aE (a9 rfl)))
theorem Ez(hN:Nn N)(a:Int)(b:Nat):ou (lo N c) (a,b)=decide ((c:Int)*(b:Int)<a*(N:Int)):=by
 have d:(lo N c).1*(N)=(c)*((lo N c).2):=jo _ N;have L:=Ŏ.mpr (jm (c) hN.pos);have U:=Ŏ.mpr hN.pos;unfold ou;rw[Q_l];have Z:(lo N c).1*(b)*(N)=(c)*(b)*((lo N c).2):=by grind
 have Y:a*((lo N c).2)*(N)=a*(N)*((lo N c).2):=Ō _ _ _;exact((QdL U).symm.trans (by rw[Z,Y])).trans (QdL L)
theorem rQ{L:Type}(g:List L->L->List L)(Y:∀a x,x∈a->g a x=a)(U:∀a x,x∉a->(g a x).length=a.length+1/\∀y,y∈g a x↔y=x\/y∈a):∀(l a:List L),(l.foldl g a).length<=a.length+l.length/\((l.foldl g a).length=a.length+l.length↔l.Nodup/\∀x∈l,x∉a)
|[],a=>⟨q_ _,fun _=>⟨Qfj,fun _ h=>(nomatch h)⟩,fun _=>rfl⟩
|x::l,a=>by
  by_cases Z:x∈a
  .obtain⟨i1,i2⟩:=rQ g Y U l a
   grind
  .obtain⟨i1,i2⟩:=rQ g Y U l (g a x)
   grind
theorem Pu(h:l.length<=1000):∃k:Nat,rB (WI false l)=some (nD k)/\k<=l.length/\(k=l.length↔l.Nodup):=by
 have e:rB (WI false l)=some (nD (io l).length):=by show(cP _).bind _=_;rw[sA];show(if l.length+1<é then some _ else none)=_;rw[Q_e (by unfold é;omega)]
 obtain⟨U,L⟩:=rQ (Qfd) (fun a x Y=>Q_e (by simp_all)) (fun a x Y=>by
  have e:Qfd a x=a++[x]:=Q_f fun z=>by simp_all
  grind) l []
 rw[į,Zs]at U L;exact⟨_,e,U,L.trans (by simp_all)⟩
abbrev aA(p:Int×Int):D:=.tup [.int p.1,.int p.2]
abbrev bG(t:Bool)(rg:List (Int×Int)):D:=wr t (rg.map aA)
abbrev cast2(rn:List (Nat×Nat)):List (Int×Int):=rn.map fun p=>((p.1:Int),(p.2:Int))
theorem jv(t:Bool)(ds:List D):kt (wr t ds)=some (! ds.isEmpty):=by cases t <;> cases ds <;> rfl
theorem ph(L:rg.length<=60)(h:bh r i=.ok (bG t rg)):db 2 [] (aV bQ (fun r=>bh r i)) (cE (ba (aw 0) (ba (aw 1) cD))) (fun _=>Res.ok true) (gv 0) r=.ok (WI false (rg.map (·.1))) /\db 2 [] (aV bQ (fun r=>bh r i)) (cE (ba (aw 0) (ba (aw 1) cD))) (fun _=>Res.ok true) (gv 1) r=.ok (WI false (rg.map (·.2))):=by
 refine⟨(dh aA _ (eQ h (jV _ _)) (by omega) fun p _=>⟨_,rfl,rfl⟩).trans ?_,(dh aA _ (eQ h (jV _ _)) (by omega) fun p _=>⟨_,rfl,rfl⟩).trans ?_⟩
 .show Res.ok _=Res.ok (D.lst _);rw[r_];rfl
 .show Res.ok _=Res.ok (D.lst _);rw[r_];rfl
theorem Lq(l:List Nat)(i:Nat):kz (LN l) none (some (i:Int))=some (LN (l.take i)):=by show some _=_;unfold aT;rw[HT.cA,HT.cx,b_,ı,ň,<-Û];simp_all
theorem LJ(h:a.length+b.length<=1000):addE (LN a) (LN b)=some (LN (a++b)):=by show(if (a.map nD).length+(b.map nD).length<=sizeLine then some _ else none)=_;rw[Q_e (by rw[b_,b_,O_];omega),<-M_]
theorem Tk(L:1<=l.length)(U:l.length<=900):J9 [LN l]=.ok (LN (l.drop 1++l.take 1)):=by refine cU ?_;exact aE (a9 (aj (fV rfl (fA rfl) rfl (Hg L)) (fV rfl rfl (fA rfl) (Lq l 1)) (LJ (by simp;omega))))
theorem Nh{l:List Nat}(L:k<l.length):(l.drop 1++l.take 1)[k]? = l[(k+1)%l.length]?:=by
 by_cases h:k+1<l.length
 .rw[Yw (by rw[Ö];omega),List.getElem?_drop,Nat.mod_eq_of_lt h,Nat.add_comm]
 .have:k+1=l.length:=by omega
  rw[ZC (by rw[Ö];omega),Ö,this,Nat.mod_self,show k-(l.length-1)=0 by omega,Qcu (by decide)]
theorem EU:∀{xs U L:List b}{j:Nat}{x y z:b},xs[j]? = some x->U[j]? = some y->L[j]? = some z->(z3 xs U L)[j]? = some [x,y,z]
|x::xs,y::U,z::L,0,_,_,_,a,Z,Y=>by cases a;cases Z;cases Y;rfl
|x::xs,y::U,z::L,j+1,_,_,_,a,Z,Y=>EU (xs:=xs) a Z Y
|[],_,_,_,_,_,_,h,_,_=>by cases h
|_::_,[],_,_,_,_,_,_,h,_=>by cases h
|_::_,_::_,[],_,_,_,_,_,_,h=>by cases h
abbrev hN(rn:List (Nat×Nat))(k:Nat):Nat:=dA (rn.map (·.1)) k
abbrev tN(rn:List (Nat×Nat))(k:Nat):Nat:=dA (rn.map (·.2)) k
abbrev aN(rn:List (Nat×Nat))(k:Nat):Nat:=tN rn ((k+1)%rn.length)
variable{rn:List (Nat×Nat)}{rg:List (Int×Int)}{t:Bool}
structure Rn(n:Nat)(rn:List (Nat×Nat)):Prop where
 ne:rn≠[]
 few:rn.length<=60
 nd:(rn.map (·.2)).Nodup
 hlt:∀p∈rn,p.1<n
 tlt:∀p∈rn,p.2<n
theorem Rn.at(Z:Rn n rn)(L:k<rn.length):hN rn k<n/\tN rn k<n/\(rn.map (·.1))[k]? = some (hN rn k)/\(rn.map (·.2))[k]? = some (tN rn k)/\rn[k]? = some (hN rn k,tN rn k):=by
 have Y:=iW (d:=rn.map (·.1)) (h:=k) (by simpa using L);have U:=iW (d:=rn.map (·.2)) (h:=k) (by simpa using L);have b:rn[k]? = some (hN rn k,tN rn k):=by rw[l_,g_ L]at Y U;rw[g_ L];exact Q_h some (ř (K_ Y) (K_ U))
 have a:=YV b;exact⟨Z.hlt _ a,Z.tlt _ a,Y,U,b⟩
def rb(rows:List (List Nat))(tb:Nat->Nat->Int×Nat)(rn:List (Nat×Nat)):Bool:=(d_ rn.length).all fun k=>lJ tb (hN rn k) (tN rn k)&&ig rows (hN rn k) (aN rn k) (tN rn k)
theorem Nf(L:h<n):jb (nD h) (LN (jx rows tb n x o))=some (.bl (lJ tb h x&&ig rows h o x)):=by
 have e:jb (nD h) (LN (jx rows tb n x o))=some (.bl (decide (h∈jx rows tb n x o))):=Vn _ _;rw[e];congr 2;unfold jx
 grind
open Classical in
theorem OD(L:rg.length<=60)(h:¬ (rg≠[]/\Gd n ((rg.map (·.2)).map some)/\∀p∈rg,0<=p.1/\p.1<n)):Ce [WD rows,TB tb n,bG t rg]=.ok (.bl false):=by
 refine dz (n:=6) ?_
 dsimp only[Cb,tU]
 refine(ao (aM (ph (t:=t) L (i:=2) rfl).1)).trans ?_;refine(ao (aM (ph (t:=t) L (i:=2) rfl).2)).trans ?_;refine aE ((aI ?_).trans (aE (a9 rfl)));by_cases Y:rg=[]
 .subst Y;exact cG (cp (b:=false) (bU (d:=bG t []) rfl (jv t _)))
 refine(aQ (cp (b:=true) (bU (d:=bG t rg) rfl ((jv t _).trans ?_)))).trans ?_
 .cases rg with
 |nil=>exact Q_g rfl Y
 |cons a l=>rfl
 have u:=qe (n:=n) false (hs:=rg.map (·.2)) (by simpa using L);by_cases U:Gd n ((rg.map (·.2)).map some)
 .refine(aQ (cp (b:=true) (bU (aD (ae rfl (ae (aS (ae rfl ah) (tbl tb n)) ah)) u) (by rw[Q_d U];rfl)))).trans ?_;have c:=dh (nl:=1) (cap:=[1]) (fi:=aV bQ (gv 3)) (ft:=aw 0) (fe:=bx (ak (gv 0) (ak (fC (ak (gv 1) ag) lenD) ag)) [] lD) (r:=[some (WD rows),some (TB tb n),some (bG t rg),some (WI false (rg.map (·.1))),some (WI false (rg.map (·.2))),none]) (l:=rg.map (·.1)) D.int (fun x=>.bl (decide (0<=x/\x<n))) rfl (by simp;omega)
   fun x _=>⟨[some (.int x),some (TB tb n)],rfl,aD (ae rfl (ae (aS (ae rfl ah) (tbl tb n)) ah)) (xZ x n)⟩
  refine cp (b:=false) (bU (aS (ae c ah) (lf _ _)) ?_);have:(rg.map (·.1)).all (fun x=>decide (0<=x/\x<(n:Int)))=false:=by rw[Qcr];intro z;rw[Yy]at z;exact h ⟨Y,U,fun p Z=>Q_j (z p.1 (F_.mpr ⟨p,Z,rfl⟩))⟩
  rw[this];rfl
 .exact cG (cp (b:=false) (bU (aD (ae rfl (ae (aS (ae rfl ah) (tbl tb n)) ah)) u) (by rw[Q_c U];rfl)))
open Classical in
theorem Qh(R:Sq rows n)(T:Tok tb n)(Z:Rn n rn):Ce [WD rows,TB tb n,bG t (cast2 rn)]=.ok (.bl (rb rows tb rn)):=by
 have e:(cast2 rn).length<=60:=by rw[b_];exact Z.few
 have f:=Zm.mpr Z.ne;have o:=Z.few;have q:WI false ((cast2 rn).map (·.1))=LN (rn.map (·.1)):=by show D.lst _=D.lst ((rn.map (·.1)).map nD);rw[r_,r_,r_];rfl
 have g:WI false ((cast2 rn).map (·.2))=LN (rn.map (·.2)):=by show D.lst _=D.lst ((rn.map (·.2)).map nD);rw[r_,r_,r_];rfl
 have m:Gd n (((cast2 rn).map (·.2)).map some):=⟨rn.map (·.2),by rw[r_,r_];show _=Zd _ (Zd _ rn);rw[r_];rfl,Z.nd,fun k L=>by obtain⟨p,Y,rfl⟩:=F_.mp L;exact Z.tlt p Y⟩
 refine dz (n:=6) ?_
 dsimp only[Cb,tU]
 refine(ao (aM (ph (t:=t) e (i:=2) rfl).1)).trans ?_;refine(ao (aM (ph (t:=t) e (i:=2) rfl).2)).trans ?_;have u:=qe (n:=n) false (hs:=(cast2 rn).map (·.2)) (by simpa using e);rw[Q_d m]at u;rw[q,g];rw[show wr false (((cast2 rn).map (·.2)).map D.int)=LN (rn.map (·.2))from g]at u;refine(ao ((aJ ?_).trans (e_skip _))).trans ?_
 .refine(aQ (cp (b:=true) (bU (d:=bG t (cast2 rn)) rfl ((jv t _).trans ?_)))).trans ?_
  .cases rn with
  |nil=>exact Q_g rfl Z.ne
  |cons a l=>rfl
  refine(aQ (cp (b:=true) (bU (aD (ae rfl (ae (aS (ae rfl ah) (tbl tb n)) ah)) u) rfl))).trans ?_;have c:=dh (nl:=1) (cap:=[1]) (fi:=aV bQ (gv 3)) (ft:=aw 0) (fe:=bx (ak (gv 0) (ak (fC (ak (gv 1) ag) lenD) ag)) [] lD) (r:=[some (WD rows),some (TB tb n),some (bG t (cast2 rn)),some (LN (rn.map (·.1))),some (LN (rn.map (·.2))),none]) (l:=rn.map (·.1)) nD (fun x=>.bl true) rfl (by simp;omega)
   fun x j=>⟨[some (nD x),some (TB tb n)],rfl,aD (ae rfl (ae (aS (ae rfl ah) (tbl tb n)) ah)) ((xZ x n).trans (by obtain⟨p,Y,rfl⟩:=F_.mp j;have:=Z.hlt p Y;rw[Q_d (by omega)]))⟩
  refine cp (b:=true) (bU (aS (ae c ah) (lf (fun _=>true) _)) ?_);rw[Yy.mpr fun _ _=>rfl];rfl
 have U:(z3 ((rn.map (·.1)).map nD) ((rn.map (·.2)).map nD) (((rn.map (·.2)).drop 1++(rn.map (·.2)).take 1).map nD)).map D.tup=(d_ rn.length).map fun k=>D.tup [nD (hN rn k),nD (tN rn k),nD (aN rn k)]:=by
  refine Ĭ fun k=>?_;by_cases L:k<rn.length
  .obtain⟨_,_,a1,a2,_⟩:=Z.at L;have B:((rn.map (·.2)).drop 1++(rn.map (·.2)).take 1)[k]? = some (aN rn k):=by rw[Nh (by simpa using L),b_];exact(Z.at (YU _ f)).2.2.2.1
   rw[l_,EU (x:=nD (hN rn k)) (y:=nD (tN rn k)) (z:=nD (aN rn k)) (by rw[l_,a1];rfl) (by rw[l_,a2];rfl) (by rw[l_,B];rfl),l_,Y_ L];rfl
  .rw[Zn (by rw[b_,nk (by simp) (by simp;omega)];simp;omega),Zn (by simp;omega)]
 have h:lz3D [LN (rn.map (·.1)),LN (rn.map (·.2)),LN ((rn.map (·.2)).drop 1++(rn.map (·.2)).take 1)]=some (.lst ((d_ rn.length).map fun k=>D.tup [nD (hN rn k),nD (tN rn k),nD (aN rn k)])):=by rw[<-U];exact Q_e ⟨by simp;omega,by simp,by simp;omega⟩
 refine(ao (aM (aS (ae rfl (ae rfl (ae (aD (ae rfl ah) (Tk (by simp;assumption) (by simp;omega))) ah))) h))).trans ?_;have s:=dh (nl:=3) (cap:=[0,1]) (fi:=aV bQ (gv 5)) (ft:=cE (ba (aw 0) (ba (aw 1) (ba (aw 2) cD)))) (fe:=f2 (gv 0) (bx (ak (gv 3) (ak (gv 4) (ak (gv 1) (ak (gv 2) ag)))) [] p4) jb)
  (r:=[some (WD rows),some (TB tb n),some (bG t (cast2 rn)),some (LN (rn.map (·.1))),some (LN (rn.map (·.2))),some (.lst _)]) (l:=d_ rn.length) (fun k=>D.tup [nD (hN rn k),nD (tN rn k),nD (aN rn k)]) _ rfl (by simp;omega)
  fun k L=>⟨_,rfl,by have L:=n_.mp L;obtain⟨A,w,_⟩:=Z.at L;have v:=(Z.at (YU (k+1) f)).2.1;exact aj rfl (aD (ae rfl (ae rfl (ae rfl (ae rfl ah)))) (Ib R T w v)) (Nf A)⟩
 exact aE (a9 (aS (ae s ah) (lf _ _)))
theorem rP(h:f r=.ok d)(U:ft d r=some r'):iP L f ft r=.nx r':=by unfold iP;rw[h,onE_ok];simp only[U]
theorem Ha(a b:Int):kn [aA (a,b)]=.ok (.bl (decide (0<b))):=by
 refine dz (n:=1) ?_
 dsimp only[AX,sY]
 refine(ao ((aJ ?_).trans (e_skip _))).trans ?_
 .refine(aQ (cp (b:=true) (bU (d:=.bl true) (fU (a:=aA (a,b)) rfl rfl) rfl))).trans ?_;exact bW (aj (aS (ae (d:=aA (a,b)) rfl ah) rfl) rfl (nc 2 2))
 exact aE (a9 ((fB (aD (ae (aj (a:=aA (a,b)) rfl rfl rfl) ah) rfl)).trans ((fB (aD (ae (aj (a:=aA (a,b)) rfl rfl rfl) ah) rfl)).trans (aj (aj (a:=aA (a,b)) rfl rfl rfl) rfl rfl))))
variable{a b:Int}
abbrev Pb(a b:Int):Prop:=a.natAbs<2^60/\b.natAbs<2^60
theorem vW(h:Pb a b)(L:0<b):Bd 60 (a,b.toNat):=⟨by grind,by grind,h.1⟩
theorem vV(L:0<b):aA (a,b)=FR (a,b.toNat):=by grind
theorem GN(h:Pb a b)(L:0<b):gM [.tup [.int 0,.int 1],aA (a,b)]=.ok (.bl (decide (0<a))):=by rw[vV L];exact IA (vW h L) (by decide)
theorem Vr(hN:Nn N)(U:c<=N)(h:Pb a b)(L:0<b):gM [Qn N c,aA (a,b)]=.ok (.bl (decide ((c:Int)*b<a*N))):=by rw[vV L];refine(HY (lj hN U) (vW h L) (by decide) (by decide)).trans ?_;rw[Ez hN,Ĩ (by omega)]
theorem E4(hN:Nn N)(i:c<=N)(h:Pb a b)(Y:0<b):mn [Qn N c,aA (a,b)]=.ok (.bl (decide ((c:Int)*b<a*N))):=by rw[vV Y];have U:=lj hN i;have L:=vW h Y;have e:=Ez (c:=c) hN a b.toNat;rw[Ĩ (by grind)]at e;rw[<-e];show mn [FR _,FR _]=_;generalize lo N c=x at U;generalize(a,b.toNat)=y at L;refine cU ?_;have g:=ip x;have f:=iX x;have d:=ip y;have Z:=iX y;exact aE (a9 (aj (aj (aj rfl rfl g) (aj rfl rfl Z) (i5 U.top (by exact L.bot) (by omega) (by omega))) (aj (aj rfl rfl d) (aj rfl rfl f) (i5 L.top (by exact U.bot) (by omega) (by omega))) rfl))
abbrev lI(A:Nat->Nat->Nat)(rn:List (Nat×Nat)):List Nat:=rn.map fun p=>A p.1 p.2
theorem OF(hN:Nn N)(Y:∀h x,h<n->x<n->A h x<=N)(Z:Rn n rn):Je [Ta n N A,bG t (cast2 rn)]=.ok (Qn N (Et.dE (lI A rn))):=by
 refine cU ?_;have a:=Z.few;have c:=dh (nl:=2) (cap:=[0]) (fi:=aV bQ (gv 1)) (ft:=cE (ba (aw 0) (ba (aw 1) cD))) (fe:=f2 (f2 (gv 2) (gv 0) aF) (gv 1) aF) (r:=bP 2 [Ta n N A,bG t (cast2 rn)]) (fun p=>aA _) _ (eQ rfl (by rw[jV,r_];rfl)) (by omega)
  fun p L=>⟨_,rfl,aj (aj rfl rfl (oy (Z.hlt p L))) rfl (oB (Z.tlt p L))⟩
 have l:=Sx hN (l:=lI A rn) (by simpa using Z.ne) (fun y U=>by obtain⟨p,L,rfl⟩:=F_.mp U;exact Y _ _ (Z.hlt p L) (Z.tlt p L));rw[r_]at l;exact aE (a9 (aD (ae c ah) l))
def cb(N:Nat)(l:List Nat)(a b:Int):Bool:=decide (0<b)&&(decide (0<a) && ! decide ((Et.dE l:Int)*b<a*N))
theorem OG(hN:Nn N)(g:∀h x,h<n->x<n->A h x<=N)(Z:Rn n rn)(c:Pb a b):Kw [Ta n N A,bG t (cast2 rn),aA (a,b)]=.ok (.bl (cb N (lI A rn) a b)):=by
 refine dz (n:=3) ?_
 dsimp only[Ku,A6]
 refine aE (a9 ?_);have w:bx (ak (fC (ak (gv 2) ag) tupD) ag) [] kn (bP 3 [Ta n N A,bG t (cast2 rn),aA (a,b)])=.ok (.bl (decide (0<b))):=aD (ae (aS (ae (d:=aA (a,b)) rfl ah) rfl) ah) (Ha a b);unfold cb;by_cases Y:0<b
 .rw[Q_d Y]at w ⊢;rw[Zh];refine(fB w).trans ?_;have U:bx (ak (fun _=>Res.ok (D.tup [D.int 0,D.int 1])) (ak (gv 2) ag)) [] gM (bP 3 [Ta n N A,bG t (cast2 rn),aA (a,b)])=.ok (.bl (decide (0<a))):=aD (ae rfl (ae (d:=aA (a,b)) rfl ah)) (GN c Y);by_cases f:0<a
  .rw[Q_d f]at U ⊢;rw[Zh];have i:Et.dE (lI A rn)<=N:=by obtain⟨p,L,e⟩:=F_.mp (Et.fE (l:=lI A rn) (by simpa using Z.ne));rw[<-e];exact g _ _ (Z.hlt p L) (Z.tlt p L)
   exact(fB U).trans (G6 (aD (ae (aD (ae rfl (ae rfl ah)) (OF hN g Z)) (ae (d:=aA (a,b)) rfl ah)) (Vr hN i c Y)))
  .rw[Q_c f]at U ⊢;exact lv U
 .rw[Q_c Y]at w ⊢;exact lv w
def j5(n:Nat)(x:Int):Bool:=decide (0<=x/\x<n)
theorem zB(R:Sq rows n)(L:bh r 0=.ok (WD rows))(h:f r=.ok (.int x)):bj (jj (ci 0) f (fC (ak (gv 0) ag) lenD) ii ltI) r=.ok (j5 n x):=by
 refine bW ?_;unfold j5;by_cases c:0<=x
 .rw[show decide _=decide (x<(n))by simp_all];exact ND rfl h (by show some (D.bl _)=_;rw[Q_d c]) (aS (ae L ah) R.len) rfl
 .rw[Q_c fun z=>c z.1];unfold jj;rw[bind_ok,h,bind_ok,show ii _ _=some (.bl false)by show some _=_;simp_all];rfl
def gP(rg:List (Int×Int))(k:Nat):Int×Int:=rg.getD k (0,0)
abbrev gA(rg:List (Int×Int))(k:Nat):Int:=(gP rg ((k+1)%rg.length)).2
def pk(rows:List (List Nat))(n N:Nat)(A:Nat->Nat->Nat)(rg:List (Int×Int))(a b:Int)(k:Nat):Bool:=j5 n (gP rg k).1&&(j5 n (gP rg k).2&&(j5 n (gA rg k)&&(ig rows (gP rg k).1.toNat (gA rg k).toNat (gP rg k).2.toNat && ! decide ((A (gP rg k).1.toNat (gP rg k).2.toNat:Int)*b<a*N))))
theorem qV(L:k<rg.length):rg[k]? = some (gP rg k):=by unfold gP;simp_all
abbrev sC(rows:List (List Nat))(n N:Nat)(A:Nat->Nat->Nat)(t:Bool)(rg:List (Int×Int))(a b:Int)(l:am):am:=some (WD rows)::some (Ta n N A)::some (bG t rg)::some (aA (a,b))::some (WI false (rg.map (·.2)))::l
theorem V1(R:Sq rows n)(hN:Nn N)(X:∀h x,h<n->x<n->A h x<=N)(h9:rg.length<=60)(Q:Pb a b)(W:0<b)(T:k<rg.length)(c Z Y:Option D):(pk rows n N A rg a b k=true->∃M K J,p5 (sC rows n N A t rg a b [some (nD k),c,Z,Y])=.nx (sC rows n N A t rg a b [some (nD k),M,K,J]))/\(pk rows n N A rg a b k=false->p5 (sC rows n N A t rg a b [some (nD k),c,Z,Y])=.rt (.bl false)):=by
 have e0:=qV T;have S:(k+1)%rg.length<rg.length:=YU _ (by omega);have e1:=qV S;have s:iP fO (f2 (gv 2) (gv 5) aF) (cE (ba (aw 6) (ba (aw 7) cD))) (sC rows n N A t rg a b [some (nD k),c,Z,Y])=.nx (sC rows n N A t rg a b [some (nD k),some (.int (gP rg k).1),some (.int (gP rg k).2),Y]):=rP (aj rfl rfl (m8 (by rw[l_,e0];rfl))) rfl;have m:lenD [WI false (rg.map (·.2))]=some (nD rg.length):=by rw[h8,b_,b_]
 have e:aY fO 8 (f2 (gv 4) (f2 (f2 (gv 5) (ci 1) addA) (fC (ak (gv 4) ag) lenD) bn) aF) (sC rows n N A t rg a b [some (nD k),some (.int (gP rg k).1),some (.int (gP rg k).2),Y])=.nx (sC rows n N A t rg a b [some (nD k),some (.int (gP rg k).1),some (.int (gP rg k).2),some (.int (gA rg k))]):=by refine aM (aj rfl (aj (a:=nD (k+1)) (b:=nD rg.length) (d:=nD ((k+1)%rg.length)) (aj rfl rfl rfl) (aS (ae rfl ah) m) ?_) (m8 (by simp_all)));rw[yS (by omega)];rfl
 unfold pk;generalize hh:(gP rg k).1=h at s e ⊢;generalize ht:(gP rg k).2=x at s e ⊢;generalize ho:gA rg k=o at e ⊢;have w:=zB R (r:=sC rows n N A t rg a b [some (nD k),some (.int h),some (.int x),some (.int o)]) (f:=gv 6) rfl rfl;have G:=zB R (r:=sC rows n N A t rg a b [some (nD k),some (.int h),some (.int x),some (.int o)]) (f:=gv 7) rfl rfl;have H:=zB R (r:=sC rows n N A t rg a b [some (nD k),some (.int h),some (.int x),some (.int o)]) (f:=gv 8) rfl rfl;have F:∀{y:Int},j5 n y=true->y.toNat<n/\D.int y=nD y.toNat:=fun{y} z=>by
  have:=Q_j z
  grind
 have U:∀{B:Bool},(gz (dR (bj (jj (ci 0) (gv 6) (fC (ak (gv 0) ag) lenD) ii ltI))) _) (sC rows n N A t rg a b [some (nD k),some (.int h),some (.int x),some (.int o)])=.ok B->B=true->p5 (sC rows n N A t rg a b [some (nD k),c,Z,Y])=.rt (.bl false):=fun z I=>by subst I;exact(ao s).trans ((ao e).trans (aE ((aI z).trans (aE (a9 rfl)))))
 cases l:j5 n h with
|false=>exact⟨(fun z=>by cases z),fun _=>U (cG (cp (b:=false) (w.trans (by rw[l])))) rfl⟩
|true=>cases v:j5 n x with
|false=>exact⟨(fun z=>by cases z),fun _=>U ((aQ (cp (b:=true) (w.trans (by rw[l])))).trans (cG (cp (b:=false) (G.trans (by rw[v]))))) rfl⟩
|true=>cases E:j5 n o with
|false=>exact⟨(fun z=>by cases z),fun _=>U ((aQ (cp (b:=true) (w.trans (by rw[l])))).trans ((aQ (cp (b:=true) (G.trans (by rw[v])))).trans (cp (b:=false) (H.trans (by rw[E]))))) rfl⟩
|true=>
 obtain⟨u,d1⟩:=F l;obtain⟨C,d2⟩:=F v;obtain⟨P,d3⟩:=F E;rw[Zh,Zh,Zh];have L:(gz (bj (f2 (fM "tuple" (f2 (gv 0) (gv 6) aF) (ak (gv 8) ag) km) (fM "tuple" (f2 (gv 0) (gv 6) aF) (ak (gv 7) ag) km) n0)) (cL (bx (ak (f2 (f2 (gv 1) (gv 6) aF) (gv 7) aF) (ak (gv 3) ag)) [] mn))) (sC rows n N A t rg a b [some (nD k),some (.int h),some (.int x),some (.int o)])=.ok (!(ig rows h.toNat o.toNat x.toNat && ! decide ((A h.toNat x.toNat:Int)*b<a*N))):=by
  rw[d1,d2,d3];have g:n0 (nD ((Wr rows h.toNat).idxOf o.toNat)) (nD ((Wr rows h.toNat).idxOf x.toNat))=some (.bl (! ig rows h.toNat o.toNat x.toNat)):=by show some (D.bl (decide (_<=_)))=_;unfold ig;rw[<-decide_not];congr 2;rw[Q_l];omega
  have i:∀{f:FE}{y:Nat},y<n->f (sC rows n N A t rg a b [some (nD k),some (nD h.toNat),some (nD x.toNat),some (nD o.toNat)])=.ok (nD y)->fM "tuple" (f2 (gv 0) (gv 6) aF) (ak f ag) km (sC rows n N A t rg a b [some (nD k),some (nD h.toNat),some (nD x.toNat),some (nD o.toNat)])=.ok (nD ((Wr rows h.toNat).idxOf y)):=fun{f y} hy z=>oh (d:=TN (Wr rows h.toNat)) (aj rfl rfl (R.at u)) rfl (ae z ah) (sE (R.has u hy));have p:=bW (aj (i P (f:=gv 8) rfl) (i C (f:=gv 7) rfl) g);cases q:ig rows h.toNat o.toNat x.toNat with
 |false=>rw[q]at p;exact cG p
 |true=>
   rw[q]at p;refine(aQ p).trans ((bU (aD (ae (aj (aj rfl rfl (oy u)) rfl (oB C)) (ae (d:=aA (a,b)) rfl ah)) (E4 hN (X _ _ u C) Q W)) rfl).trans ?_)
   grind
 have j:∀{O:Out},(al _ be) (sC rows n N A t rg a b [some (nD k),some (.int h),some (.int x),some (.int o)])=O->p5 (sC rows n N A t rg a b [some (nD k),c,Z,Y])=O:=fun z=>(ao s).trans ((ao e).trans ((ao ((aJ ((aQ (cp (b:=true) (w.trans (by rw[l])))).trans ((aQ (cp (b:=true) (G.trans (by rw[v])))).trans (cp (b:=true) (H.trans (by rw[E])))))).trans (e_skip _))).trans z));refine⟨fun z=>?_,fun z=>?_⟩
 .rw[z]at L;exact⟨_,_,_,j (ao ((aJ L).trans (e_skip _)))⟩
 .rw[z]at L;exact j (aE ((aI L).trans (aE (a9 rfl))))
def lcb(rows:List (List Nat))(n N:Nat)(A:Nat->Nat->Nat)(rg:List (Int×Int))(a b:Int):Bool:=decide (2<=rg.length)&&(decide ((rg.map (·.2)).Nodup)&&(decide (1<=a)&&(decide (1<=b)&&(d_ rg.length).all (pk rows n N A rg a b))))
theorem Qm(R:Sq rows n)(hN:Nn N)(K:∀h x,h<n->x<n->A h x<=N)(y:rg.length<=60)(H:Pb a b):Cc [WD rows,Ta n N A,bG t rg,aA (a,b)]=.ok (.bl (lcb rows n N A rg a b)):=by
 refine dz (n:=9) ?_
 dsimp only[Kt,A5]
 refine(ao (aM (ph (t:=t) y (i:=2) rfl).2)).trans ?_;obtain⟨m,O,G,F⟩:=Pu (l:=rg.map (·.2)) (by simp;omega);rw[b_]at G F;have Y:lenD [WI false (rg.map (·.2))]=some (nD rg.length):=by rw[h8,b_,b_]
 have Z:lenD [bG t rg]=some (nD rg.length):=by rw[h8,b_]
 have c:∀{x:Bool},decide (2<=rg.length) = ! x->bj (f2 (fC (ak (gv 2) ag) lenD) (ci 2) ltI) (sC rows n N A t rg a b [none,none,none,none])=.ok x:=fun{x} e=>bW (aj (aS (ae rfl ah) Z) rfl ((lQ rg.length 2).trans (by grind)));have f:∀{x:Bool},decide ((rg.map (·.2)).Nodup) = ! x->bj (f2 (f1 (gv 4) rB) (fC (ak (gv 4) ag) lenD) ltI) (sC rows n N A t rg a b [none,none,none,none])=.ok x:=fun{x} e=>bW (aj (fU rfl O) (aS (ae rfl ah) Y) ((lQ m rg.length).trans (by congr 2;grind)));have q:∀{x:Bool},decide (1<=a) = ! x->bj (f2 (f2 (gv 3) (ci 0) aF) (ci 1) ltI) (sC rows n N A t rg a b [none,none,none,none])=.ok x:=fun{x} e=>bW (aj (aj (a:=aA (a,b)) rfl rfl rfl) rfl (by
  show some (D.bl (decide (a<1)))=_
  grind))
 have B:∀{x:Bool},decide (1<=b) = ! x->bj (f2 (f2 (gv 3) (ci 1) aF) (ci 1) ltI) (sC rows n N A t rg a b [none,none,none,none])=.ok x:=fun{x} e=>bW (aj (aj (a:=aA (a,b)) rfl rfl rfl) rfl (by
  show some (D.bl (decide (b<1)))=_
  grind))
 unfold lcb;cases U:decide (2<=rg.length)with
|false=>exact aE ((aI (cG (c U))).trans (aE (a9 rfl)))
|true=>cases d:decide ((rg.map (·.2)).Nodup)with
|false=>exact aE ((aI ((aQ (c U)).trans (cG (f d)))).trans (aE (a9 rfl)))
|true=>cases p:decide (1<=a)with
|false=>exact aE ((aI ((aQ (c U)).trans ((aQ (f d)).trans (cG (q p))))).trans (aE (a9 rfl)))
|true=>cases v:decide (1<=b)with
|false=>exact aE ((aI ((aQ (c U)).trans ((aQ (f d)).trans ((aQ (q p)).trans (B v))))).trans (aE (a9 rfl)))
|true=>
 refine(ao ((aJ ((aQ (c U)).trans ((aQ (f d)).trans ((aQ (q p)).trans (B v))))).trans (e_skip _))).trans ?_;have J:0<b:=by grind
 have L:=pi (ft:=aw 5) (b:=p5) (fun r=>∃s o j g,r=sC rows n N A t rg a b [s,o,j,g]) nD (pk rows n N A rg a b) (d_ rg.length) (fun k I r ⟨s,o,j,g,M⟩=>by subst M;obtain⟨E,C⟩:=V1 (t:=t) R hN K y H J (n_.mp I) o j g;exact⟨_,rfl,fun z=>let⟨S,Q,P,e⟩:=E z;⟨_,⟨_,_,_,_,rfl⟩,e⟩,C⟩) (sC rows n N A t rg a b [none,none,none,none]) ⟨_,_,_,_,rfl⟩;have w:cZ cR (ak (fC (ak (gv 2) ag) lenD) ag) (sC rows n N A t rg a b [none,none,none,none])=.ok ((d_ rg.length).map nD):=fX (ae (aS (ae rfl ah) Z) ah) (fW (by omega));cases u:(d_ rg.length).all (pk rows n N A rg a b)with
|false=>exact aE ((dg w).trans (L.2 u))
|true=>obtain⟨T,⟨_,_,_,_,rfl⟩,e⟩:=L.1 u;exact(ao ((dg w).trans e)).trans (aE (a9 rfl))
theorem Gk(Z:Rn n rn)(L:k<rn.length):gP (cast2 rn) k=((hN rn k:Int),(tN rn k:Int)):=by have e:=qV (rg:=cast2 rn) (k:=k) (by rw[b_];exact L);rw[l_,(Z.at L).2.2.2.2]at e;exact(K_ e).symm
theorem MD(hN:Nn N)(w:∀h x,h<n->x<n->A h x<=N)(Z:Rn n rn):lcb rows n N A (cast2 rn) a b=(rb rows (fun h x=>lo N (A h x)) rn&&cb N (lI A rn) a b):=by
 have m:=Zm.mpr Z.ne;have v:=hN.pos;have Y:∀{y:Nat},y<n->j5 n (y:Int)=true:=fun h=>Q_d (by omega);have U:∀{k:Nat},k<rn.length->pk rows n N A (cast2 rn) a b k=(ig rows (Law.hN rn k) (aN rn k) (tN rn k) && ! decide ((A (Law.hN rn k) (tN rn k):Int)*b<a*N)):=fun{k} hk=>by
  have g:=YU (k+1) m;have e:gA (cast2 rn) k=(aN rn k:Int):=by show(gP (cast2 rn) ((k+1)%(cast2 rn).length)).2=_;rw[b_,Gk Z g]
  unfold pk;rw[Gk Z hk,e];obtain⟨u,t,_⟩:=Z.at hk;rw[Y u,Y t,Y (Z.at g).2.1,Zh,Zh,Zh];rfl
 have j:((cast2 rn).map (·.2)).Nodup:=by rw[r_,show((fun x:Int×Int=>x.2)∘fun p:Nat×Nat=>((p.1:Int),(p.2:Int)))=(fun k:Nat=>(k:Int))∘(fun p:Nat×Nat=>p.2)from rfl,<-r_];exact Z.nd.map _ fun x y h e=>h (Ď.mp e)
 rw[YG];unfold lcb rb cb;simp only[R_,Yy,n_,Q_k,č,decide_eq_false_iff_not,b_];have f:∀{c:Nat},1<=a->¬ (c:Int)*b<a*N->0<c:=fun{c} ha hc=>by
  apply Qeb
  rintro rfl
  apply hc;rw[Int.natCast_zero,Int.zero_mul];exact Int.mul_pos (by assumption) (by omega)
 constructor
 .rintro⟨h2,_,ha,hb,hk⟩
  have d:∀k,k<rn.length->ig rows (Law.hN rn k) (aN rn k) (tN rn k)=true/\¬ (A (Law.hN rn k) (tN rn k):Int)*b<a*N:=fun k z=>by have:=hk k z;rw[U z,R_,č,decide_eq_false_iff_not]at this;exact this
  refine⟨fun k z=>⟨?_,(d k z).1⟩,by assumption,by assumption,?_⟩
  .exact Q_d (E5 hN (f ha (d k z).2))
  .obtain⟨p,hp,e⟩:=F_.mp (Et.fE (l:=lI A rn) (by simpa using Z.ne));obtain⟨k,L,o⟩:=P_ hp;have i:=(Z.at L).2.2.2.2;rw[g_ L,o]at i;have q:=K_ i;rw[<-e,q];exact(d k L).2
 .rintro⟨hk,hb,ha,hc⟩
  refine⟨?_,j,by assumption,by assumption,fun k z=>?_⟩
  .apply Zl;intro z;have s:rn.length=1:=by omega
   have:=(hk 0 (by omega)).2;unfold ig at this;have r:aN rn 0=tN rn 0:=by show tN rn ((0+1)%rn.length)=_;rw[s]
   rw[r,Q_i]at this;omega
  .rw[U z,R_,č,decide_eq_false_iff_not];refine⟨(hk k z).2,fun y=>hc ?_⟩;have g:=Et.jF (l:=lI A rn) (y:=A (Law.hN rn k) (tN rn k)) (F_.mpr ⟨_,YV (Z.at z).2.2.2.2,rfl⟩);exact Qea (Int.mul_le_mul_of_nonneg_right (by omega) (by omega)) y
theorem Ql(R:Sq rows n)(T:Tok (fun h x=>lo N (A h x)) n)(hN:Nn N)(o:∀h x,h<n->x<n->A h x<=N)(d:DS n A N)(v:rg.length<=60)(U:Pb a b):uD [iD "Handing" [("ring",bG t rg),("part",aA (a,b))],WD rows,Ta n N A]=.ok (.bl (lcb rows n N A rg a b)):=by
 refine dz (n:=3) ?_
 dsimp only[Ks,A4]
 have j:=cp (b:=true) (bU (aD (dds:=[]) (ae (f:=gv 1) (r:=bP 3 [iD "Handing" [("ring",bG t rg),("part",aA (a,b))],WD rows,Ta n N A]) rfl (ae (f:=gv 2) rfl ah)) (yK R hN o d)) rfl);have c:∀rg:List (Int×Int),f1 (gv 0) (gX oK "ring") (bP 3 [iD "Handing" [("ring",bG t rg),("part",aA (a,b))],WD rows,Ta n N A])=.ok (bG t rg):=fun rg=>fU (a:=iD "Handing" [("ring",bG t rg),("part",aA (a,b))]) rfl rfl;have G:∀rg:List (Int×Int),f1 (gv 0) (gX oJ "part") (bP 3 [iD "Handing" [("ring",bG t rg),("part",aA (a,b))],WD rows,Ta n N A])=.ok (aA (a,b)):=fun rg=>fU (a:=iD "Handing" [("ring",bG t rg),("part",aA (a,b))]) rfl rfl;by_cases V:rg≠[]/\Gd n ((rg.map (·.2)).map some)/\∀p∈rg,0<=p.1/\p.1<n
 .obtain⟨h0,hg,hh⟩:=V;obtain⟨g,s,i,L⟩:=MH hg;have e:rg=cast2 (rg.map fun p=>(p.1.toNat,p.2.toNat)):=by
   show rg=Zd _ (Zd _ rg);rw[r_]
   conv=>lhs;rw[<-þ rg]
   refine X_ fun p U=>?_;have w:=(hh p U).1;have F:0<=p.2:=by
    have:p.2∈upz g:=by grind
    grind
   grind
  have H:(rg.map fun p=>(p.1.toNat,p.2.toNat)).map (·.2)=g:=by
   rw[r_,show((fun x:Nat×Nat=>x.2)∘fun p:Int×Int=>(p.1.toNat,p.2.toNat))=ZS∘(fun p:Int×Int=>p.2)from rfl,<-r_,s,r_]
   conv=>rhs;rw[<-þ g]
   exact X_ fun x _=>rfl
  have Z:Rn n (rg.map fun p=>(p.1.toNat,p.2.toNat)):=⟨by simpa using h0,by simpa using v,by rw[H];exact i,fun q u=>by obtain⟨p,U,rfl⟩:=F_.mp u;have:=hh p U;omega,fun q u=>L q.2 (by grind)⟩
  generalize(rg.map fun p=>(p.1.toNat,p.2.toNat))=C at e Z;subst e;rw[MD hN o Z];have Y:=Qh (t:=t) R T Z;cases q:rb rows (fun h x=>lo N (A h x)) C with
 |false=>rw[q]at Y;exact aE ((aI ((aQ j).trans (cp (b:=false) (bU (aD (ae (d:=WD rows) rfl (ae (d:=Ta n N A) rfl (ae (c _) ah))) Y) rfl)))).trans (aE (a9 rfl)))
 |true=>rw[q]at Y;refine(ao ((aJ ((aQ j).trans (cp (b:=true) (bU (aD (ae (d:=WD rows) rfl (ae (d:=Ta n N A) rfl (ae (c _) ah))) Y) rfl)))).trans (e_skip _))).trans ?_;rw[Zh];exact aE (a9 (aD (ae (d:=Ta n N A) rfl (ae (c _) (ae (G _) ah))) (OG hN o Z U)))
 .have hf:lcb rows n N A rg a b=false:=by
   rw[Qcr];intro z;unfold lcb at z;simp only[R_,Yy,n_,Q_k]at z;obtain⟨J,I,_,_,B⟩:=z;have E:∀p∈rg,(0<=p.1/\p.1<n)/\(0<=p.2/\p.2<n):=fun p U=>by obtain⟨k,m,s⟩:=P_ U;have:=B k m;have e:=qV m;rw[g_ m,s]at e;unfold pk at this;rw[<-K_ e]at this;simp only[R_]at this;exact⟨Q_j this.1,Q_j this.2.1⟩
   refine V ⟨by grind,⟨(rg.map (·.2)).map ZS,?_,?_,?_⟩,fun p U=>(E p U).1⟩
   .show _=Zd _ (Zd ZS (rg.map (·.2)));rw[r_,r_,r_];refine X_ fun p U=>?_
    grind
   .have:∀{l:List Int},l.Nodup->(∀x∈l,0<=x)->(l.map ZS).Nodup:=fun{l} w F=>by
     rw[Qcd,ĭ];refine QfD (fun{x y} hx hy hne=>?_) w
     grind
    grind
   grind
  rw[hf];exact aE ((aI ((aQ j).trans (cp (b:=false) (bU (aD (ae (d:=WD rows) rfl (ae (d:=Ta n N A) rfl (ae (c _) ah))) (OD v V)) rfl)))).trans (aE (a9 rfl)))
structure Mm(M:Nat):Prop where
 pos:0<M
 lt:M<2^60
structure Bq(M a b:Nat):Prop where
 a0:a<2^60
 b0:0<b
 b1:b<2^60
 dv:b∣M
abbrev cq(M a b:Nat):Nat:=a*(M/b)
abbrev ja(a b:Nat):D:=.tup [nD a,nD b]
variable{M:Nat}
section
variable{s a b:Nat}
theorem K5(L:Mm M)(hs:s<2^130):Bd 130 (lo M s):=Bd.low L.pos (B_ L.lt (QdK (by decide) (by decide))) (by rw[Z_];exact hs)
theorem Fl(U:Mm M)(q:Bq M a b):rH (lo M s) ((a:Int),b)=lo M (s+cq M a b):=by
 have Z:(lo M s).1*(M)=(s)*((lo M s).2):=jo _ M;have L:=jm (s) U.pos;have e:((cq M a b):Int)*(b)=(a)*(M):=by rw[<-ZI,<-ZI];rw[Nat.mul_assoc,Qed q.dv]
 generalize d:lo M s=x at Z L;obtain⟨c,Y⟩:=x;have L:0<Y:=by simp_all
 refine pO (Æ L q.b0) U.pos ?_
 grind
theorem D6(q:Bq M a b):Bd 60 ((a:Int),b):=⟨q.b0,q.b1,by exact q.a0⟩
theorem LR(L:Mm M)(hs:s<2^130)(q:Bq M a b):oG [Qn M s,ja a b]=.ok (Qn M (s+cq M a b)):=by have:=Ia (K5 L hs) (D6 q) (by decide);rw[Fl L q]at this;exact this
theorem E9(L:Mm M)(hs:s<2^130)(q:Bq M a b):mo [Qn M s,ja a b]=.ok (Qn M (s+cq M a b)):=by have:=SF (K5 L hs) (D6 q) (by decide);rw[Fl L q]at this;exact this
theorem D9(L:Mm M)(q:Bq M a b):cq M a b<2^120:=by have U:M/b<2^60:=Zt (QeV _ _) L.lt;exact B_ (QeM q.a0 U) (by simp_all)
theorem DB(L:Mm M):Qn M 0=.tup [.int 0,.int 1]:=by show FR _=_;rw[show lo M 0=(0,1)from vS L.pos];rfl
end
abbrev Q3:=Nat×Nat×List Nat
abbrev pQ(u:Bool)(q:Q3):D:=.tup [ja q.1 q.2.1,wr u (q.2.2.map nD)]
abbrev LQ(t u:Bool)(ps:List Q3):D:=wr t (ps.map (pQ u))
abbrev ck(M:Nat)(ps:List Q3):List (Nat×List Nat):=ps.map fun q=>(cq M q.1 q.2.1,q.2.2)
structure Pq(n M:Nat)(ps:List Q3):Prop where
 n1:1<=n
 n7:n<=7
 m:Mm M
 bq:∀q∈ps,Bq M q.1 q.2.1
 ok:∀q∈ps,q.2.2.Perm (d_ n)
 few:ps.length<=60
variable{u:Bool}
section
variable{ps:List Q3}
theorem Fx(L:Mm M):∀{ps:List Q3},(∀q∈ps,Bq M q.1 q.2.1)->((ck M ps).map (·.1)).sum<=ps.length*2^120
|[],_=>YQ _
|q::ps,h=>by
  have i:=Fx L fun q U=>h q (k_ _ U);have:=D9 L (h q m_)
  grind
theorem Pq.sum(P:Pq n M ps):((ck M ps).map (·.1)).sum<2^126:=by have Y:=Fx P.m P.bq;have U:=P.few;have L:ps.length*2^120<=60*2^120:=QdM _ U;exact Zt (Y1 Y L) (by decide)
theorem Jn(U:Mm M):∀(l:List Q3)(s:Nat)(x:Option D),(∀q∈l,Bq M q.1 q.2.1)->s+((ck M l).map (·.1)).sum<2^130->∃y,aZ (aw 2) Iv (l.map fun q=>ja q.1 q.2.1) [some d0,some (Qn M s),x]=.nx [some d0,some (Qn M (s+((ck M l).map (·.1)).sum)),y]
|[],s,x,_,_=>⟨x,fq⟩
|q::l,s,x,L,h=>by have e:((ck M (q::l)).map (·.1)).sum=cq M q.1 q.2.1+((ck M l).map (·.1)).sum:=rfl;rw[e]at h ⊢;obtain⟨y,Y⟩:=Jn U (d0:=d0) l (s+cq M q.1 q.2.1) (some (ja q.1 q.2.1)) (fun z Z=>L z (k_ _ Z)) (by omega);refine⟨y,?_⟩;rw[Yx,<-QdY,<-Y];exact dL rfl (ao (aM (aD (ae rfl (ae rfl ah)) (LR U (by omega) (L q m_)))))
theorem C5(L:Mm M)(hq:∀q∈l,Bq M q.1 q.2.1)(h:((ck M l).map (·.1)).sum<2^130):lA [.lst (l.map fun q=>ja q.1 q.2.1)]=.ok (Qn M ((ck M l).map (·.1)).sum):=by
 obtain⟨y,e⟩:=Jn L (d0:=.lst (l.map fun q=>ja q.1 q.2.1)) l 0 none hq (by omega);rw[Zs]at e;refine dz (n:=3) ?_
 dsimp only[xO,rW]
 refine(ao (aM (d:=Qn M 0) (by rw[DB L]))).trans ?_;exact(ao ((dg rfl).trans e)).trans (aE (a9 rfl))
theorem Vg(P:Pq n M ps)(hq:q∈ps)(L:h<n):aF (wr u (q.2.2.map nD)) (nD h)=some (nD (dA q.2.2 h)):=m8 (by rw[l_,iW (n9 (P.ok q hq) L).1];rfl)
theorem Sl(P:Pq n M ps)(Z:h<n):tz [LQ t u ps,nD h,nD x]=.ok (Qn M (mixN (ck M ps) h x)):=by
 have b:=P.few;refine cU ?_;have a:=l0 (nl:=2) (cap:=[2,1]) (fi:=aV bQ (gv 0)) (ft:=cE (ba (aw 0) (ba (aw 1) cD))) (q:=bj (f2 (f2 (gv 1) (gv 3) aF) (gv 2) eqD)) (fe:=gv 0) (r:=[some (LQ t u ps),some _,some (nD x)]) _ _ _ (eQ rfl (jV _ _)) (by omega) fun p U=>⟨_,rfl,bW (aj (aj rfl rfl (Vg P U Z)) rfl (jR _ _)),fun _=>rfl⟩
 have e:mixN (ck M ps) h x=((ck M (ps.filter fun p=>decide (dA p.2.2 h=x))).map (·.1)).sum:=by show(((ps.map fun q=>(cq M q.1 q.2.1,q.2.2)).filter _).map (·.1)).sum=_;rw[List.filter_map];rfl
 have Y:=o9 (ck M ps) h x;have c:=P.sum;rw[e];exact aE (a9 (aD (ae a ah) (C5 P.m (fun q L=>P.bq q (Zp.mp L).1) (by omega))))
theorem JA(P:Pq n M ps):∀(j i:Nat)(y:Option D),i+j=n ->∃L,aZ (aw 3) RH ((Ý i j).map nD) [some (LQ t u ps),some (nD n),some (.lst ((d_ i).map fun h=>kC true n M (mixN (ck M ps)) h)),y]=.nx [some (LQ t u ps),some (nD n),some (.lst ((d_ n).map fun h=>kC true n M (mixN (ck M ps)) h)),L]
|0,i,y,h=>by
  have:i=n:=by omega
  subst this;exact⟨y,fq⟩
|j+1,i,y,h=>by
  have Y:i<n:=by omega
  have a:=P.n7;obtain⟨L,U⟩:=JA P j (i+1) (some (nD i)) (by omega);refine⟨L,?_⟩;rw[<-U,Ę,Yx];refine dL rfl ?_;have Z:=dh (nl:=1) (cap:=[0,3]) (fi:=cZ cR (ak (gv 1) ag)) (ft:=aw 0) (fe:=bx (ak (gv 1) (ak (gv 2) (ak (gv 0) ag))) [] tz) (r:=[some (LQ t u ps),some (nD n),some (.lst ((d_ i).map fun h=>kC true n M (mixN (ck M ps)) h)),some (nD i)]) (l:=d_ n) nD _ (fX (ae (d:=nD n) rfl ah) (fW (by omega))) (by simp;omega) fun x _=>⟨_,rfl,aD (ae rfl (ae rfl (ae rfl ah))) (Sl P Y)⟩
  rw[show(d_ (i+1)).map _=(d_ i).map _++[kC true n M (mixN (ck M ps)) i]by rw[Ĝ,M_];rfl];exact ao (iw rfl rfl (ae (aS (ae Z ah) (e_tupL _)) ah) (kl (by simp;omega)))
theorem SH(P:Pq n M ps)(U:ps≠[]):Gx [LQ t u ps]=.ok (Ta n M (mixN (ck M ps))):=by
 have a:=P.n7;obtain⟨y,e⟩:=JA P n 0 none (by omega);rw[<-ĕ]at e;refine cU ?_;have Y:∃p,p∈ps/\aF (LQ t u ps) (.int 0)=some (pQ u p):=by cases L:ps with
 |nil=>exact Q_g L U
 |cons p l=>exact⟨p,m_,m8 rfl⟩
 obtain⟨p,L,Y⟩:=Y;have Z:aF (pQ u p) (.int 1)=some _:=hZ rfl;refine(ao (aM (aS (ae (aj (aj rfl rfl Y) rfl Z) ah) (by rw[h8,b_,(P.ok p L).length_eq,Yv])))).trans ?_;refine(ao (aM (eN ah (by simp)))).trans ?_;refine(ao ((dg (fX (ae rfl ah) (fW (by omega)))).trans e)).trans ?_;rw[<-EI];exact aE (a9 (aS (ae rfl ah) (e_tupL _)))
theorem HM(t:Mm M)(m:h<n):∀(ps:List Q3)(s:Nat)(q:Nat->Nat)(c b:Option D),(∀p∈ps,p.2.2.Perm (d_ n)/\Bq M p.1 p.2.1)->(∀x,q x<=s)->s+((ck M ps).map (·.1)).sum<2^130 ->∃(g e:Option D),aZ (cE (ba (aw 5) (ba (aw 6) cD))) Kl (ps.map (pQ u)) [some d0,some d1,some d2,some (nD h),some (uS n M q),c,b]=.nx [some d0,some d1,some d2,some (nD h),some (uS n M fun x=>q x+mixN (ck M ps) h x),g,e]
|[],s,q,c,b,_,i,l=>⟨c,b,fq⟩
|p::ps,s,q,c,b,j,i,l=>by
  have U:((ck M (p::ps)).map (·.1)).sum=cq M p.1 p.2.1+((ck M ps).map (·.1)).sum:=rfl;rw[U]at l;obtain⟨F,E⟩:=j p m_;obtain⟨Y,o⟩:=n9 F m;have L:aF (wr u (p.2.2.map nD)) (nD h)=some (nD (dA p.2.2 h)):=m8 (by rw[l_,iW Y];rfl);obtain⟨g,e,C⟩:=HM t (d0:=d0) (d1:=d1) (d2:=d2) m ps (s+cq M p.1 p.2.1) (fun y=>if y=dA p.2.2 h then q y+cq M p.1 p.2.1 else q y) (some (ja p.1 p.2.1)) (some (wr u (p.2.2.map nD))) (fun r z=>j r (k_ _ z)) (fun x=>by grind) (by omega);refine⟨g,e,?_⟩;have A:(fun x=>q x+mixN (ck M (p::ps)) h x)=fun x=>(if x=dA p.2.2 h then q x+cq M p.1 p.2.1 else q x)+mixN (ck M ps) h x:=by funext x;show q x+mixN ((cq M p.1 p.2.1,p.2.2)::ck M ps) h x=_;rw[sZ];split <;> omega
  rw[Yx,A,<-C];refine dL rfl ?_;have w:=Lr (n:=n) (f:=fun x=>Qn M (q x)) (v:=Qn M (q (dA p.2.2 h)+cq M p.1 p.2.1)) o;have B:((d_ n).map fun y=>if y=dA p.2.2 h then Qn M (q (dA p.2.2 h)+cq M p.1 p.2.1)else Qn M (q y))=(d_ n).map fun y=>Qn M (if y=dA p.2.2 h then q y+cq M p.1 p.2.1 else q y):=by
   refine X_ fun y _=>?_
   grind
  rw[B]at w;have Z:=i (dA p.2.2 h);exact ao (jk (d:=uS n M q) (k:=nD (dA p.2.2 h)) rfl (aD (ae (aj (a:=uS n M q) rfl (aj rfl rfl L) (DE o)) (ae (d:=ja p.1 p.2.1) rfl ah)) (E9 t (by omega) E)) (aj rfl rfl L) w)
theorem HN(P:Pq n M ps):∀(j i:Nat)(Z Y U L:Option D),i+j=n ->∃(l k b a:Option D),aZ (aw 3) UN ((Ý i j).map nD) [some (LQ t u ps),some (nD n),some (.lst ((d_ i).map fun h=>kC true n M (mixN (ck M ps)) h)),Z,Y,U,L]=.nx [some (LQ t u ps),some (nD n),some (.lst ((d_ n).map fun h=>kC true n M (mixN (ck M ps)) h)),l,k,b,a]
|0,i,Z,Y,U,L,h=>by
  have:=by omega
  subst this;exact⟨Z,Y,U,L,fq⟩
|j+1,i,Z,Y,U,L,h=>by
  have p:i<n:=by omega
  have v:=P.n7;have s:=P.sum;obtain⟨b,a,d⟩:=HM P.m p ps 0 _ U L (fun q c=>⟨P.ok q c,P.bq q c⟩) (fun _=>q_ _) (by omega);have r:(fun x=>0+mixN (ck M ps) i x)=mixN (ck M ps) i:=by funext x;omega
  rw[r]at d;obtain⟨z3,g,f,e,o⟩:=HN P j (i+1) _ _ b a (by omega);refine⟨z3,g,f,e,?_⟩;rw[<-o,Ę,Yx];refine dL rfl ?_;refine(ao (aM (dh nD (fun _=>Qn M 0) (fX (ae rfl ah) (fW (by omega))) (by simp;omega) fun x _=>⟨_,rfl,by rw[DB P.m];exact cz (ae rfl (ae rfl ah)) (by decide)⟩))).trans ?_;refine(ao ((dg (eQ rfl (jV _ _))).trans d)).trans ?_;rw[show(d_ (i+1)).map _=(d_ i).map _++[kC true n M _ i]by rw[Ĝ,M_];rfl];exact ao (iw rfl rfl (ae (aS (ae rfl ah) (e_tupL _)) ah) (kl (by simp;omega)))
theorem An(P:Pq n M ps):nH [LQ t u ps,nD n]=.ok (Ta n M (mixN (ck M ps))):=by
 have b:=P.n7;obtain⟨a,Z,Y,U,L⟩:=HN (t:=t) (u:=u) P n 0 none none none none (by omega);rw[<-ĕ]at L;refine dz (n:=7) ?_
 dsimp only[Ke,Ap]
 refine(ao (aM (d:=.lst []) (eN ah (by simp)))).trans ?_;refine(ao ((dg (fX (ae (d:=nD n) rfl ah) (fW (by omega)))).trans L)).trans ?_;rw[<-EI];exact aE (a9 (aS (ae (d:=.lst ((d_ n).map fun h=>kC true n M (mixN (ck M ps)) h)) rfl ah) (e_tupL _)))
end
theorem Gi{U:Type}[DecidableEq U]{e:U->D}(Y:∀a b,ú (bg (e a)) (bg (e b))=decide (a=b)):∀l L:List U,Ô (zfZ (l.map e)) (zfZ (L.map e))=decide (l=L)
|[],[]=>by simp[zfZ,Ô]
|[],b::L=>by simp[zfZ,Ô]
|a::l,[]=>by simp[zfZ,Ô]
|a::l,b::L=>by have:=Gi Y l L;simp only[Yx,zfZ,Ô,Y,this];rw[<-Bool.decide_and,Q_l,List.cons.injEq]
theorem FF{L:Type}[DecidableEq L]{e:L->D}(Y:∀a b,ú (bg (e a)) (bg (e b))=decide (a=b))(t:Bool)(l U:List L):ú (bg (wr t (l.map e))) (bg (wr t (U.map e)))=decide (l=U):=by cases t <;> (exact Gi Y l U)
theorem FB{L:Type}[DecidableEq L]{e:L->D}(Y:∀a b,ú (bg (e a)) (bg (e b))=decide (a=b))(Z:∀a,cn 59 (e a))(t:Bool)(l U:List L):iN (wr t (l.map e)) (wr t (U.map e))=some (decide (l=U)):=by
 have s:∀l:List L,cn 60 (wr t (l.map e)):=fun l=>by
  have h:∀d∈l.map e,cn 59 d:=fun d c=>by grind
  cases t
  .exact pe.mpr h
  .exact lz.mpr h
 rw[zD (by cases t <;> rfl) (s l) (s U)];unfold mL;rw[FF Y]
theorem NJ(a b:Int):ú (bg (.int a)) (bg (.int b))=decide (a=b):=by
 simp only[bg,ú]
 grind
theorem Vw(x y:List Int):neD (WI false x) (WI false y)=some (.bl (! decide (x=y))):=by unfold neD;rw[FB NJ (fun _=>trivial)];rfl
theorem Lh(a b:Int×Nat):ú (bg (FR a)) (bg (FR b))=decide (a=b):=by
 simp only[bg,zfZ,ú,Ô]
 grind
abbrev tl(tb:Nat->Nat->Int×Nat)(n:Nat):List (List (Int×Nat)):=(d_ n).map fun h=>(d_ n).map (tb h)
theorem FD(tb L:Nat->Nat->Int×Nat)(n:Nat):eqD (TB tb n) (TB L n)=some (.bl (decide (tl tb n=tl L n))):=by
 have e:∀tb,TB tb n=wr true ((tl tb n).map fun r=>wr true _):=fun tb=>by rw[r_];rfl
 unfold eqD;rw[e,e,FB (fun a b=>FF Lh true a b) (fun a=>lz.mpr fun d U=>by obtain⟨q,_,rfl⟩:=F_.mp U;exact lz.mpr fun d U=>by simp at U;rcases U with rfl|rfl <;> trivial)];rfl
theorem M7:tl tb n=tl L n↔∀h,h<n->∀x,x<n->tb h x=L h x:=by simp_all
abbrev TI(xs:List Int):D:=.tup (xs.map .int)
theorem Pw{l:List (List Int)}(h:l.length<=60):∃k:Nat,oC [.lst (l.map TI)]=some (nD k)/\k<=l.length/\(k=l.length↔l.Nodup):=by
 have e:oC [.lst (l.map TI)]=some (nD (HT.DK l)):=by
  have b:∀l,ll (l.map TI)=some l:=fun l=>by induction l with
  |nil=>rfl
  |cons a l Z=>show(cP _).bind _=_;rw[sA];simp_all
  show(ll _).bind _=_
  grind
 obtain⟨Y,U⟩:=rQ (HT.ad) (fun a x L=>Q_e L) (fun a x L=>by rw[show HT.ad a x=x::a from Q_f L];simp_all) l [];rw[į,Zs]at Y U;exact⟨_,e,Y,U.trans (by simp_all)⟩
abbrev P3:=(Int×Int)×List Int
abbrev pI(u:Bool)(q:P3):D:=.tup [aA q.1,WI u q.2]
abbrev bo(t u:Bool)(ps:List P3):D:=wr t (ps.map (pI u))
structure Okq(n:Nat)(q:P3):Prop where
 b:0<q.1.2
 a:0<q.1.1
 og:Og n q.2
structure Fit(ps:List P3):Prop where
 few:ps.length<=60
 pb:∀q∈ps,Pb q.1.1 q.1.2
 len:∀q∈ps,q.2.length<=60
structure Apb(n:Nat)(ps:List P3):Prop where
 ne:ps≠[]
 le:ps.length<=(n-1)*(n-1)+1
 ok:∀q∈ps,Okq n q
 nd:(ps.map (·.2)).Nodup
section
variable{ps:List P3}
open Classical in
theorem Qp(Z:Pb q.1.1 q.1.2)(c:q.2.length<=60):zI [aA q.1,WI u q.2,nD n]=.ok (.bl (decide (Okq n q))):=by
 refine dz (n:=3) ?_
 dsimp only[Iu,zv]
 refine aE (a9 ?_);have w:bx (ak (fC (ak (gv 0) ag) tupD) ag) [] kn (bP 3 [aA q.1,WI u q.2,nD n])=.ok (.bl (decide (0<q.1.2))):=aD (ae (aS (ae (d:=aA q.1) rfl ah) rfl) ah) (Ha q.1.1 q.1.2);by_cases L:0<q.1.2
 .rw[Q_d L]at w;refine(fB w).trans ?_;have U:bx (ak (fun _=>Res.ok (D.tup [D.int 0,D.int 1])) (ak (gv 0) ag)) [] gM (bP 3 [aA q.1,WI u q.2,nD n])=.ok (.bl (decide (0<q.1.1))):=aD (ae rfl (ae (d:=aA q.1) rfl ah)) (GN Z L);by_cases Y:0<q.1.1
  .rw[Q_d Y]at U;refine(fB U).trans (aD (ae rfl (ae rfl ah)) ((DG u c).trans ?_));congr 2;rw[Q_l,Ma];exact⟨fun z=>⟨L,Y,z⟩,fun z=>z.og⟩
  .rw[Q_c Y]at U;rw[Q_c fun z:Okq n q=>Y z.a];exact lv U
 .rw[Q_c L]at w;rw[Q_c fun z:Okq n q=>L z.b];exact lv w
theorem Oi(u:Bool)(ds:List D):tupD [wr u ds]=some (.tup ds):=by
 cases u
 .exact e_tupL ds
 .rfl
theorem DN(L:1<=n)(U:n<=7)(h:f r=.ok (nD n)):f2 (f2 (f2 f (ci 1) eS) (f2 f (ci 1) eS) bK) (ci 1) addA r=.ok (nD ((n-1)*(n-1)+1)):=by
 have s:eS (nD n) (.int 1)=some (nD (n-1)):=by show some (D.int ((n:Int)-1))=_;rw[nD,Int.natCast_sub L];rfl
 refine aj (aj (aj h rfl s) (aj h rfl s) (d:=nD ((n-1)*(n-1))) ?_) rfl rfl;rw[jn (.inr ⟨by omega,by omega⟩),<-ZI]
theorem Hy(F:Fit ps)(h:bh r i=.ok (bo t u ps)):∃k:Nat,fC (ak (db 2 [] (aV bQ (fun r=>bh r i)) (cE (ba (aw 0) (ba (aw 1) cD))) (fun _=>Res.ok true) (fC (ak (gv 1) ag) tupD)) ag) oC r=.ok (nD k)/\k<=ps.length/\(k=ps.length↔(ps.map (·.2)).Nodup):=by
 obtain⟨k,e,U,L⟩:=Pw (l:=ps.map (·.2)) (by simpa using F.few);rw[b_]at U L;have Y:=F.few;have c:=dh (nl:=2) (cap:=[]) (fi:=aV bQ (fun r=>bh r i)) (ft:=cE (ba (aw 0) (ba (aw 1) cD))) (fe:=fC (ak (gv 1) ag) tupD) _ _ (eQ h (jV _ _)) (by omega) fun q _=>⟨_,rfl,aS (ae rfl ah) (Oi u _)⟩
 rw[r_]at e;exact⟨k,aS (ae c ah) e,U,L⟩
open Classical in
theorem Ut(s:1<=n)(p:n<=7)(F:Fit ps):Ju [bo t u ps,nD n]=.ok (.bl (decide (Apb n ps))):=by
 have v:=F.few;refine dz (n:=2) ?_
 dsimp only[Jp,zL]
 have U:lenD [bo t u ps]=some (nD ps.length):=by rw[h8,b_]
 by_cases j:ps=[]
 .subst j;rw[Q_c fun z:Apb n []=>z.ne rfl];exact aE ((aI (cG (cp (b:=false) (bU (d:=bo t u []) rfl (jv t _))))).trans (aE (a9 rfl)))
 have m:=cp (b:=true) (bU (f:=gv 0) (r:=bP 2 [bo t u ps,nD n]) (d:=bo t u ps) rfl ((jv t _).trans (by cases ps with
 |nil=>exact Q_g rfl j
 |cons a l=>rfl)))
 have h:bj (f2 (fC (ak (gv 0) ag) lenD) (f2 (f2 _ (f2 (gv 1) (ci 1) eS) bK) (ci 1) addA) jd) (bP 2 [bo t u ps,nD n])=.ok _:=bW (aj (aS (ae rfl ah) U) (DN s p rfl) (qX _ _));by_cases Z:(n-1)*(n-1)+1<ps.length
 .rw[Q_d Z]at h;rw[Q_c fun z:Apb n ps=>Q_g z.le (by omega)];exact aE ((aI ((aQ m).trans h)).trans (aE (a9 rfl)))
 rw[Q_c Z]at h;refine(ao ((aJ ((aQ m).trans h)).trans (e_skip _))).trans ?_;have c:=dh (nl:=2) (cap:=[1]) (fi:=aV bQ (gv 0)) (ft:=cE (ba (aw 0) (ba (aw 1) cD))) (fe:=bx (ak (gv 0) (ak (gv 1) (ak (gv 2) ag))) [] zI) (r:=bP 2 [bo t u ps,nD n]) (l:=ps) (pI u) _ (eQ (d:=bo t u ps) rfl (jV _ _)) (by omega) fun q Y=>⟨_,rfl,aD (ae rfl (ae rfl (ae rfl ah))) (Qp (F.pb q Y) (F.len q Y))⟩
 have g:=cp (bU (aS (ae c ah) (lf _ ps)) rfl);by_cases L:∀q∈ps,Okq n q
 .rw[Yy.mpr fun q Y=>Q_d (L q Y)]at g;refine(ao ((aJ g).trans (e_skip _))).trans ?_;obtain⟨k,e,w,o⟩:=Hy (t:=t) (u:=u) F (r:=bP 2 [bo t u ps,nD n]) (i:=0) rfl;refine aE (a9 (aj e (aS (ae rfl ah) U) ((jR _ _).trans ?_)));congr 2;rw[Q_l,o];exact⟨fun z=>⟨j,by omega,L,z⟩,fun z=>z.nd⟩
 .have hf:ps.all (fun q=>decide (Okq n q))=false:=by rw[Qcr];intro z;exact L fun q Y=>Q_j (Yy.mp z q Y)
  rw[hf]at g;rw[Q_c fun z:Apb n ps=>L z.ok];exact aE ((aI g).trans (aE (a9 rfl)))
abbrev toQ(q:P3):Q3:=(q.1.1.toNat,q.1.2.toNat,q.2.map ZS)
theorem FW(h:Okq n q)(u:Bool):pI u q=pQ u (toQ q)/\(toQ q).2.2.Perm (d_ n)/\q.2=upz (toQ q).2.2:=by
 obtain⟨o,e,p⟩:=h.og;have U:q.2.map ZS=o:=by
  rw[e];show Zd _ (Zd _ o)=o;rw[r_]
  conv=>rhs;rw[<-þ o]
  exact X_ fun x _=>rfl
 have Z:=h.a;have Y:=h.b;have L:aA q.1=ja q.1.1.toNat q.1.2.toNat:=by grind
 refine⟨?_,(by simp_all),by simp_all⟩;show D.tup [aA q.1,wr u (q.2.map D.int)]=D.tup [ja q.1.1.toNat q.1.2.toNat,wr u ((q.2.map ZS).map nD)];rw[L,U,e];show D.tup [_,wr u ((upz o).map D.int)]=_;rw[r_];rfl
structure Cmn(n M:Nat)(ps:List P3):Prop where
 m:Mm M
 dv:∀q∈ps,Okq n q->q.1.2.toNat∣M
theorem vK(C:Mm M)(U:q.1.2.toNat∣M)(Y:Pb q.1.1 q.1.2)(L:Okq n q):Bq M (toQ q).1 (toQ q).2.1:=by have Z:=L.b;exact⟨by grind,by grind,by grind,U⟩
theorem EJ(Z:1<=n)(Y:n<=7)(F:Fit ps)(C:Cmn n M ps)(L:∀q∈ps,Okq n q):Pq n M (ps.map toQ)/\∀t u,bo t u ps=LQ t u (ps.map toQ):=by
 refine⟨⟨Z,Y,C.m,fun z U=>?_,fun z U=>?_,by rw[b_];exact F.few⟩,fun t u=>?_⟩
 .obtain⟨q,hq,rfl⟩:=F_.mp U;exact vK C.m (C.dv q hq (L q hq)) (F.pb q hq) (L q hq)
 .obtain⟨q,hq,rfl⟩:=F_.mp U;exact(FW (L q hq) true).2.1
 .show wr t _=wr t _;rw[r_];congr 1;exact X_ fun q hq=>(FW (L q hq) u).1
abbrev Sm(M:Nat)(ps:List P3):Nat:=((ck M (ps.map toQ)).map (·.1)).sum
theorem OP(d:Mm M)(i:Pb q.1.1 q.1.2)(l:q.2.length<=60)(m:n<=7)(j:Okq n q->q.1.2.toNat∣M)(hs:s<2^130):(Okq n q->uE [some T,some P,some (nD n),some (Qn M s),some (aA q.1),some (WI true q.2)]=.nx [some T,some P,some (nD n),some (Qn M (s+cq M (toQ q).1 (toQ q).2.1)),some (aA q.1),some (WI true q.2)]) /\(¬ Okq n q->uE [some T,some P,some (nD n),some (Qn M s),some (aA q.1),some (WI true q.2)]=.rt (.bl false)):=by
 have U:∀{x:Bool},decide (q.1.1<1)=x->bj (f2 (f2 (gv 4) (ci 0) aF) (ci 1) ltI) [some T,some P,some (nD n),some (Qn M s),some (aA q.1),some (WI true q.2)]=.ok x:=fun e=>bW (aj (aj rfl rfl rfl) rfl (by rw[<-e];rfl));have c:∀{x:Bool},decide (q.1.2<1)=x->bj (f2 (f2 (gv 4) (ci 1) aF) (ci 1) ltI) [some T,some P,some (nD n),some (Qn M s),some (aA q.1),some (WI true q.2)]=.ok x:=fun e=>bW (aj (aj rfl rfl rfl) rfl (by rw[<-e];rfl));have h:oW [WI true q.2]=some (WI false (gr q.2)):=by show(cP (q.2.map D.int)).bind _=_;rw[sA];show(if q.2.length<64 then some _ else none)=_;rw[Q_e (by omega)];rfl
 have g:∀{x:Bool},decide _ = ! x->bj (f2 (fC (ak (gv 5) ag) oW) (fC (ak (gv 2) ag) lP) neD) [some T,some P,some (nD n),some (Qn M s),some (aA q.1),some (WI true q.2)]=.ok x:=fun{x} e=>bW (aj (aS (ae rfl ah) h) (aS (ae rfl ah) (Vs (by omega))) ((Vw _ _).trans (by rw[e,Bool.not_not])));have Y:∀{f:FQ},f [some T,some P,some (nD n),some (Qn M s),some (aA q.1),some _]=.ok true->al (dQ gu f (al (bZ gu (fun _=>Res.ok (D.bl false))) be) be) (al (aY gu 3 (bx (ak (gv 3) (ak (gv 4) ag)) [] mo)) be) [some T,some P,some (nD n),some (Qn M s),some (aA q.1),some (WI true q.2)]=.rt (.bl false):=fun z=>aE ((aI z).trans (aE (a9 rfl)));constructor
 .intro ok;have L:=ok.a;have Z:=ok.b;refine(ao ((aJ ((aQ (U (Q_c (by omega)))).trans ((aQ (c (Q_c (by omega)))).trans (g (Q_d (Hj.mpr ok.og)))))).trans (e_skip _))).trans ?_;have k:aA q.1=ja (toQ q).1 (toQ q).2.1:=by grind
  exact ao (aM (aD (ae rfl (ae rfl ah)) (by rw[k];exact E9 d hs (vK d (j ok) i ok))))
 .intro nok;by_cases L:q.1.1<1
  .exact Y (cG (U (Q_d L)))
  by_cases Z:q.1.2<1
  .exact Y ((aQ (U (Q_c L))).trans (cG (c (Q_d Z))))
  refine Y ((aQ (U (Q_c L))).trans ((aQ (c (Q_c Z))).trans (g (Q_c fun z=>nok ⟨by omega,by omega,Hj.mp z⟩))))
theorem GR(a:Mm M)(j:n<=7):∀(l:List P3)(s:Nat)(Z Y:Option D),(∀q∈l,Pb q.1.1 q.1.2/\q.2.length<=60/\(Okq n q->q.1.2.toNat∣M))->s+l.length*2^120<2^130 ->((∀q∈l,Okq n q)->∃c b,aZ (cE (ba (aw 4) (ba (aw 5) cD))) uE (l.map (pI true)) [some T,some P,some (nD n),some (Qn M s),Z,Y]=.nx [some T,some P,some (nD n),some (Qn M (s+Sm M l)),c,b]) /\((¬ ∀q∈l,Okq n q)->aZ (cE (ba (aw 4) (ba (aw 5) cD))) uE (l.map (pI true)) [some T,some P,some (nD n),some (Qn M s),Z,Y]=.rt (.bl false))
|[],s,Z,Y,_,_=>⟨fun _=>⟨Z,Y,fq⟩,fun z=>Q_g (fun _ h=>(nomatch h)) z⟩
|q::l,s,Z,Y,h,r=>by
  obtain⟨g,t,i⟩:=h q m_;rw[I_,ċ,ŉ]at r;obtain⟨f,k⟩:=OP (T:=T) (P:=P) a g t j i (s:=s) (by omega);by_cases L:Okq n q
  .have hc:=D9 a (vK a (i L) g L);obtain⟨p,o⟩:=GR a j (T:=T) (P:=P) l (s+cq M (toQ q).1 (toQ q).2.1) (some (aA q.1)) (some (WI true q.2)) (fun q d=>h q (k_ _ d)) (by generalize cq M (toQ q).1 (toQ q).2.1=z at hc ⊢;omega);refine⟨fun z=>?_,fun z=>?_⟩
   .obtain⟨c,b,e⟩:=p fun q d=>z q (k_ _ d);refine⟨c,b,(dL rfl (f L)).trans (e.trans ?_)⟩;rw[QdY];rfl
   .exact(dL rfl (f L)).trans (o fun y=>z fun m U=>by
     rcases s_.mp U with rfl|U
     .exact L
     .exact y m U)
  .exact⟨fun z=>Q_g (z q m_) L,fun _=>wH rfl (k L)⟩
theorem PX(Z:0<M)(hN:0<N)(h:lo M c=lo N d):c*N=d*M:=by
 have U:(lo M c).1*(M:Int)=(c:Int)*((lo M c).2:Int):=jo _ M;have L:(lo N d).1*(N:Int)=(d:Int)*((lo N d).2:Int):=jo _ N;have Y:(0:Int)<((lo M c).2:Int):=Ŏ.mpr (jm (c:Int) Z);rw[<-h]at L;generalize lo M c=x at U L Y;have e:(c:Int)*(N:Int)*(x.2:Int)=(d:Int)*(M:Int)*(x.2:Int):=by rw[Ō,<-U,Ō (d:Int),<-L,Ō]
 have:=QaO (by omega) e;rw[<-ZI,<-ZI]at this;exact Ď.mp this
open Classical in
theorem JE(t:1<=n)(o:n<=7)(hN:Nn N)(d:DS n A N)(F:Fit ps)(C:Cmn n M ps):pZ [Ta n N A,bo false true ps]=.ok (.bl (decide (Apb n ps/\tl (fun h x=>lo M (mixN (ck M (ps.map toQ)) h x)) n=tl (fun h x=>lo N (A h x)) n))):=by
 have p:=F.few;refine cU (n:=6) ?_
 dsimp only[KF,BO]
 have U:lenD [bo false true ps]=some (nD ps.length):=by rw[h8,b_]
 refine(ao (aM (aS (ae rfl ah) (oX n N A)))).trans ?_;have c:bj (f2 (fC (ak (gv 1) ag) lenD) (f2 (f2 (f2 (gv 2) _ eS) _ bK) _ addA) jd) [some (Ta n N A),some _,some (nD n),none,none,none]=.ok _:=bW (aj (aS (ae rfl ah) U) (DN t o rfl) (qX _ _));by_cases a:(n-1)*(n-1)+1<ps.length
 .rw[Q_d a]at c;rw[Q_c fun z=>Q_g z.1.le (by omega)];exact aE ((aI (cG c)).trans (aE (a9 rfl)))
 rw[Q_c a]at c;obtain⟨k,e,R,Q⟩:=Hy F (r:=[some (Ta n N A),some _,some (nD n),none,none,none]) (i:=1) rfl;have j:=bW (aj e (aS (ae (f:=gv 1) rfl ah) U) (lQ k ps.length));by_cases Z:(ps.map (·.2)).Nodup
 rotate_left
 .rw[Q_d (by grind)]at j;rw[Q_c fun z=>Z z.1.nd];exact aE ((aI ((aQ c).trans j)).trans (aE (a9 rfl)))
 rw[Q_c (by simp_all)]at j;refine(ao ((aJ ((aQ c).trans j)).trans (e_skip _))).trans ?_;refine(ao (aM (d:=Qn M 0) (by rw[DB C.m];exact cz (ae rfl (ae rfl ah)) (by simp)))).trans ?_;obtain⟨B,y⟩:=GR C.m o ps 0 none none (fun q Y=>⟨F.pb q Y,F.len q Y,C.dv q Y⟩) (by have H:ps.length*2^120<=60*2^120:=QdM _ p;rw[Zs];exact Zt H (by decide));by_cases L:∀q∈ps,Okq n q
 rotate_left
 .rw[Q_c fun z=>L z.1.ok];exact aE ((dg rfl).trans (y L))
 obtain⟨w,v,s⟩:=B L;refine(ao ((dg rfl).trans s)).trans ?_;rw[Zs];obtain⟨P,J⟩:=EJ t o F C L;have O:=oQ (n:=n) (ps:=ck M (ps.map toQ)) fun z E=>by obtain⟨q,Y,rfl⟩:=F_.mp E;exact P.ok q Y
 have l:tl (fun h x=>lo M _) n=tl (fun h x=>lo N (A h x)) n->Sm M ps=M:=fun z=>by
  have z:=fun x G=>PX C.m.pos hN.pos (M7.mp z 0 (by assumption) x G);have S:=O.row 0 (by assumption);have s:=d.row 0 (by assumption);have u:=xK (fun x=>mixN (ck M (ps.map toQ)) 0 x) N n;rw[pA z,xK,s]at u;have K:N*M=Sm M ps*N:=by rw[u];congr 1
  have:=Nat.eq_of_mul_eq_mul_right hN.pos (K.symm.trans (Ň N M));exact this
 have g:f2 (gv 3) (ie (ak (ci 1) (ak (ci 1) ag))) eqD [some (Ta n N A),some (bo false true ps),some (nD n),some (Qn M (Sm M ps)),w,v]=.ok _:=aj rfl (cz (ae rfl (ae rfl ah)) (by simp)) (FC _ (1,1));refine aE (a9 ?_);by_cases b:lo M (Sm M ps)=(1,1)
 .rw[Q_d b]at g;refine(fB g).trans (aj (aD (ae rfl (ae rfl ah)) (by rw[J];exact An P)) rfl ((FD _ _ n).trans ?_));congr 2;rw[Q_l];refine⟨fun z=>⟨⟨?_,by omega,L,Z⟩,z⟩,fun z=>z.2⟩
  rintro rfl
  have I:lo M 0=(0,1):=vS C.m.pos;rw[show Sm M []=0 from rfl,I]at b;cases b
 .rw[Q_c b]at g;rw[Q_c fun z=>b (by rw[l z.2,<-mJ 1];exact pO C.m.pos (by decide) (by simp))];exact lv g
open Classical in
theorem JG(R:Sq rows n)(hN:Nn N)(c:∀h x,h<n->x<n->A h x<=N)(d:DS n A N)(F:Fit ps)(C:Cmn n M ps):p7 [iD "Parted" [("parts",bo t u ps)],WD rows,Ta n N A]=.ok (.bl (decide (Apb n ps/\tl (fun h x=>lo M (mixN (ck M (ps.map toQ)) h x)) n=tl (fun h x=>lo N (A h x)) n))):=by
 have Z:=R.n1;have Y:=R.n7;refine dz (n:=3) ?_
 dsimp only[Ki,AO]
 refine aE (a9 ?_);have a:f1 (gv 0) (gX oV "parts") (bP 3 [iD "Parted" [("parts",bo t u ps)],WD rows,Ta n N A])=.ok (bo t u ps):=fU rfl rfl;refine(fB (aD (ae (d:=WD rows) rfl (ae (d:=Ta n N A) rfl ah)) (yK R hN c d))).trans ?_;have U:=aD (dds:=[]) (ae a (ae (aS (ae (f:=gv 2) (d:=Ta n N A) rfl ah) (oX n N A)) ah)) (Ut (t:=t) (u:=u) Z Y F);by_cases L:Apb n ps
 .rw[Q_d L]at U;obtain⟨P,e⟩:=EJ Z Y F C L.ok;refine(fB U).trans (aj (aD (ae a ah) (by rw[e];exact SH P (by simpa using L.ne))) (b:=Ta n N A) rfl ((FD _ _ n).trans ?_));congr 2;rw[Q_l];exact⟨fun z=>⟨L,z⟩,fun z=>z.2⟩
 .rw[Q_c L]at U;rw[Q_c fun z=>L z.1];exact lv U
end
section
variable{b:Bool}
theorem To(R:Sq rows n)(T:Tok (fun h x=>lo N (A h x)) n)(hN:Nn N)(L:∀h x,h<n->x<n->A h x<=N)(d:DS n A N)(U:hs.length<=60):p9 [iD "Rising" [("heights",WI b hs)],WD rows,Ta n N A]=.ok (.bl (DF rows (fun h x=>lo N (A h x)) n hs)):=by refine cU (B:=t8) (n:=3) ?_;unfold t8;have Y:f1 (gv 0) (gX nz "heights") (bP 3 [iD "Rising" [("heights",WI b hs)],WD rows,Ta n N A])=.ok (WI b hs):=fU (a:=iD "Rising" [("heights",WI b hs)]) rfl rfl;refine aE (a9 ((fB (aD (ae (d:=WD rows) rfl (ae (d:=Ta n N A) rfl ah)) (yK R hN L d))).trans ?_));exact aD (ae (d:=WD rows) rfl (ae (d:=Ta n N A) rfl (ae Y ah))) (U0 R T b U)
structure Sy(rows:List (List Nat))(told:D)(b:Bool)(q:Str×List (Str×D)):Prop where
 hit:i6 q.1=true
 pap:lV q.1=some true
 lk:q.2.lookup ("shows" : Str)=none
 sh:jZ [iD q.1 q.2,WD rows,told]=.ok (.bl b)
abbrev pS(ps:List ((Str×List (Str×D))×Bool)):D:=.lst (ps.map fun q=>iD q.1.1 q.1.2)
abbrev bS(ps:List ((Str×List (Str×D))×Bool)):D:=.lst (ps.map fun q=>D.bl q.2)
theorem GY(d0 g f:Option D):∀(l:List ((Str×List (Str×D))×Bool))(e c b:Option D),(∀q∈l,Sy rows Z q.2 q.1) ->∃L U Y,aZ (cE (ba (aw 5) (ba (aw 6) cD))) Kk (l.map fun q=>D.tup [iD q.1.1 q.1.2,.bl q.2]) [d0,some (WD rows),some Z,g,f,e,c,b]=.nx [d0,some (WD rows),some Z,g,f,L,U,Y]
|[],e,c,b,_=>⟨e,c,b,fq⟩
|q::l,e,c,b,h=>by
  obtain⟨L,U,Y,i⟩:=GY d0 g f l _ _ _ fun q j=>h q (k_ _ j);have p:=h q m_;refine⟨L,U,Y,(dL rfl ?_).trans i⟩;have k:(lR i6 "shows" (gv 5) (ak (gv 1) (ak (gv 2) ag)) jZ) [d0,some (WD rows),some Z,g,f,some (iD q.1.1 q.1.2),some (.bl q.2),b]=.ok (.bl q.2):=by show(if i6 q.1.1=true/\q.1.2.lookup _=none then kL _ else .stuck)=_;rw[Q_e ⟨p.hit,p.lk⟩,p.sh];rfl
  refine(ao (aM k)).trans ?_;refine(ao ((aJ ?_).trans (e_skip _))).trans rfl;refine(aQ (cp (bU (d:=.bl true) (fU rfl ?_) rfl))).trans ?_
  .show(lV q.1.1).map D.bl=_;rw[p.pap];rfl
  refine(aQ (cp (bU (d:=.bl true) (fU (a:=.bl q.2) rfl rfl) rfl))).trans ?_;cases q.2 <;> rfl
theorem VL(h:∀q∈ps,Sy rows Z q.2 q.1):Bb [pS ps,WD rows,Z,bS ps]=.ok (.bl true):=by
 refine cU ?_;have m:∀(d i g f:Option D),gY (gv 0) (gv 3) [some (pS ps),some (WD rows),some Z,some (bS ps),d,i,g,f]=.ok _:=fun d i g f=>by rw[zm rfl rfl rfl rfl,QeN,QeB]
 have j:∀(d i g f:Option D),∃L U Y,UM [some _,some _,some Z,some (bS ps),d,i,g,f]=.nx [some (pS ps),some _,some Z,some _,d,L,U,Y]:=fun d i g f=>by obtain⟨a,b,c,e⟩:=GY _ _ d ps i g f h;exact⟨a,b,c,ao ((dg (by simp_all)).trans e)⟩
 obtain⟨a,b,c,l⟩:=j _ none none none;obtain⟨p,o,n,k⟩:=j _ a b c;refine(ao ((dg (fX (ae rfl ah) (fW (by decide)))).trans ((dL rfl l).trans ((dL rfl k).trans fq)))).trans ?_;exact aE (a9 rfl)
abbrev s3(q:Nat×Nat×Nat):D:=.tup [nD q.1,nD q.2.1,nD q.2.2]
abbrev kO(n:Nat)(q:Nat×Nat×Nat):Prop:=q.1<n/\q.2.1<n/\q.2.2<n
abbrev sS(rows:List (List Nat))(n N:Nat)(A:Nat->Nat->Nat)(st:List (Nat×Nat×Nat))(l:am):am:=some (WD rows)::some (Ta n N A)::some (.lst (st.map s3))::l
theorem Py(R:Sq rows n){t h:Nat}(Y:t<n)(U:h<n){st:List (Nat×Nat×Nat)}(j:st.length<=500)(Z:Option D):∃L d,(∀q∈L,q∈st\/kO n q)/\L.length<=st.length+n/\BA (sS rows n N A st [some (nD t),some (nD h),Z])=.nx (sS rows n N A L [some (nD t),some (nD h),d]):=by have l:=R.n7;have c:∀{b:Bool},decide _=b->bj (f2 (f2 (f2 (f2 (gv 1) (gv 4) aF) (gv 3) aF) (ci 0) aF) (ci 0) jd) (sS rows n N A st [some (nD t),some (nD h),Z])=.ok b:=fun e=>bW (aj (aj (aj (aj rfl rfl (oy U)) rfl (oB Y)) rfl (ip _)) rfl (by rw[<-e];rfl));cases k:decide (0<(lo N _).1)with
|false=>exact⟨st,Z,fun q a=>.inl a,by omega,ao ((aJ (c k)).trans (e_skip _))⟩
|true=>
  have g:=Z2 (R.has U Y);have f:(Wr rows h).length=n:=by rw[(R.row U).length_eq,Yv]
  have i:=dh (nl:=1) (cap:=[4,3]) (fi:=aV bQ (j6 (gv 5) (fun _=>Res.ok none) (li (fM "tuple" (gv 5) (ak (gv 3) ag) km)))) (ft:=aw 0) (fe:=ie (ak (gv 1) (ak (gv 2) (ak (gv 0) ag)))) (r:=sS rows n N A st [some (nD t),some (nD h),some _]) nD _ (eQ (fV rfl rfl (fA (oh rfl rfl (ae rfl ah) (sE (R.has U Y)))) (Gb g)) rfl) (by grind)
   fun o _=>⟨_,rfl,cz (ae rfl (ae rfl (ae rfl ah))) (by simp)⟩
  refine⟨st++((Wr rows h).take ((Wr rows h).idxOf t)).map (fun o=>(h,t,o)),some (TN (Wr rows h)),fun q a=>?_,by grind,ao ((aI (c k)).trans ?_)⟩
  .rcases ZH.mp a with z|z
   .exact .inl z
   .obtain⟨o,ho,rfl⟩:=F_.mp z;exact .inr ⟨U,Y,n_.mp ((R.row U).mem_iff.mp (ī ho))⟩
  .refine(ao (aM (aj rfl rfl (R.at U)))).trans (ao ?_);refine(iw (d':=.lst (st.map s3++((Wr rows h).take ((Wr rows h).idxOf t)).map fun o=>s3 (h,t,o))) rfl rfl (ae i ah) ?_).trans ?_
   .show(if _<=sizeLine then _ else none)=_;rw[Q_e (by rw[b_,b_,Zj,O_];omega)]
   .show Out.nx [some (WD rows),some _,some (D.lst _),_,_,_]=Out.nx [some (WD rows),some _,some _,_,_,_];rw[M_,r_];rfl
theorem JF(R:Sq rows n):∃st:List (Nat×Nat×Nat),(∀q∈st,kO n q)/\st.length<=400/\nI [WD rows,Ta n N A]=.ok (.lst (st.map s3)):=by
 have x:=R.n7;have Y:∀{t:Nat},t<n->∀(l:List Nat)(st:List (Nat×Nat×Nat))(c b:Option D),(∀h∈l,h<n)->(∀q∈st,kO n q)->st.length+l.length*n<=400->∃a i e,(∀q∈a,kO n q)/\a.length<=st.length+l.length*n/\aZ (aw 4) BA (l.map nD) (sS rows n N A st [some (nD t),c,b])=.nx (sS rows n N A a [some (nD t),i,e]):=by
  intro t F l
  induction l with
 |nil=>exact fun st c b _ h _=>⟨st,c,b,h,by omega,fq⟩
 |cons h l u=>intro st c b j w v;rw[I_,ċ,ŉ]at v;obtain⟨U,e,m,p,k⟩:=Py (N:=N) (A:=A) R F (j h m_) (st:=st) (by omega) b;obtain⟨L,s,r,B,E,y⟩:=u U (some (nD h)) e (fun h g=>j h (k_ _ g)) (fun q z=>(m q z).elim (w q) id) (by omega);exact⟨L,s,r,B,by rw[I_,ċ,ŉ];omega,(dL rfl k).trans y⟩
 have f:∀(l:List Nat)(st:List (Nat×Nat×Nat))(o c b:Option D),(∀h∈l,h<n)->(∀q∈st,kO n q)->st.length+l.length*(n*n)<=400->∃a C i e,(∀q∈a,kO n q)/\a.length<=400/\aZ (aw 3) UP (l.map nD) (sS rows n N A st [o,c,b])=.nx (sS rows n N A a [C,i,e]):=by
  intro l
  induction l with
 |nil=>exact fun st o c b _ h _=>⟨st,o,c,b,h,by omega,fq⟩
 |cons t l u=>intro st o c b j w v;rw[I_,ċ,ŉ]at v;obtain⟨U,i,e,m,p,k⟩:=Y (j t m_) (d_ n) st c b (fun h g=>n_.mp g) w (by rw[Yv];omega);rw[Yv]at p;obtain⟨L,z3,s,r,B,E,y⟩:=u U (some (nD t)) i e (fun h g=>j h (k_ _ g)) m (by omega);refine⟨L,z3,s,r,B,E,(dL rfl (ao ((dg (fX (ae (aS (ae rfl ah) R.len) ah) (fW (by omega)))).trans k))).trans y⟩
 have Z:n*(n*n)<=400:=by have:n*n<=7*7:=ħ x x;exact Y1 (ħ x this) (by decide)
 obtain⟨st,C,i,e,m,p,k⟩:=f (d_ n) [] none none none (fun h g=>n_.mp g) (fun _ z=>(nomatch z)) (by rw[Yv];simpa using Z);refine⟨st,m,p,dz (n:=6) ?_⟩
 dsimp only[Kg,sU]
 refine(ao (aM (d:=.lst []) (eN ah (by simp)))).trans ?_;refine(ao ((dg (fX (ae (aS (ae rfl ah) R.len) ah) (fW (by omega)))).trans k)).trans ?_;exact aE (a9 rfl)
end
theorem QH(h:f r=.ok .non):iF m i f L U f3 r=al L f3 (r.set i (some .non)):=by unfold iF;rw[h];rfl
theorem QG(h:f r=.ok (.lst ds)):iF m i f U L f3 r=al L f3 (r.set i (some (.lst ds))):=by unfold iF;rw[h];rfl
theorem GX:∀{l:List Nat}{i a:Nat},i<l.length->(l.set i a).sum+dA l i=l.sum+a
|x::l,0,a,_=>by show a+l.sum+x=x+l.sum+a;omega
|x::l,i+1,a,h=>by have:=GX (a:=a) (Qbo h);show x+(l.set i a).sum+dA l i=x+l.sum+a;omega
theorem vD(h:i<l.length):aF (LN l) (nD i)=some (nD (dA l i)):=dX (by rw[l_,iW h];rfl)
theorem Dk(h:i<l.length):eB (LN l) (nD i) (nD x)=some (LN (l.set i x)):=by rw[oP (by simp_all)];show some _=some (D.lst _);rw[Ĵ]
abbrev sL(rows:List (List Nat))(n N:Nat)(A:Nat->Nat->Nat)(hs:List Nat)(b:Bool)(l:am):am:=some (WD rows)::some (Ta n N A)::some (LN hs)::some (.bl b)::l
theorem vY:∀(l:List (Nat×Nat×Nat))(hs:List Nat)(b:Bool)(m j g:Option D),(∀q∈l,kO n q)->hs.length=n ->∃L Y f e Z,L.length=n/\hs.sum<=L.sum/\(Y=true->b=true\/hs.sum<L.sum)/\aZ (cE (ba (aw 4) (ba (aw 5) (ba (aw 6) cD)))) KO (l.map s3) (sL rows n N A hs b [m,j,g])=.nx (sL rows n N A L Y [f,e,Z])
|[],hs,b,m,j,g,_,o=>⟨hs,b,m,j,g,o,q_ _,.inl,fq⟩
|q::l,hs,b,m,j,g,s,o=>by
  obtain⟨_,y,x⟩:=s q m_;have c:bj (f2 (f2 (gv 2) (gv 6) aF) (f2 (gv 2) (gv 5) aF) ii) (sL rows n N A hs b [some (nD q.1),some (nD q.2.1),some (nD q.2.2)])=.ok (decide (dA hs q.2.2<=dA hs q.2.1)):=bW (aj (aj rfl rfl (vD (by omega))) (aj rfl rfl (vD (by omega))) (Vq _ _));by_cases h:dA hs q.2.2<=dA hs q.2.1
  .rw[Q_d h]at c;have w:=GX (l:=hs) (i:=q.2.2) (a:=dA hs q.2.1+1) (by omega);obtain⟨L,Y,f,e,Z,r,u,t,p⟩:=vY l (hs.set q.2.2 (dA hs q.2.1+1)) true (some (nD q.1)) (some (nD q.2.1)) (some (nD q.2.2)) (fun q U=>s q (k_ _ U)) (by rw[YN];exact o);refine⟨L,Y,f,e,Z,r,by omega,fun _=>.inr (by omega),(dL rfl ?_).trans p⟩;exact ao ((aI c).trans ((ao (jk (d:=LN hs) (k:=nD q.2.2) (v:=nD (dA hs q.2.1+1)) rfl (aj (aj rfl rfl (vD (by omega))) rfl rfl) rfl (Dk (by omega)))).trans (ao (aM rfl))))
  .rw[Q_c h]at c;obtain⟨L,Y,f,e,Z,r,u,t,p⟩:=vY l hs b (some (nD q.1)) (some (nD q.2.1)) (some (nD q.2.2)) (fun q U=>s q (k_ _ U)) o;exact⟨L,Y,f,e,Z,r,u,t,(dL rfl (ao ((aJ c).trans (e_skip _)))).trans p⟩
theorem FU:∀{l:List Nat},(∀x∈l,x<=k)->l.sum<=l.length*k
|[],_=>YQ _
|x::l,h=>by have:=FU fun y L=>h y (k_ _ L);have:=h x m_;rw[Ü,I_,ċ];omega
theorem Ip(R:Sq rows n):∀(f:Nat)(hs:List Nat)(b:Bool)(g d Z:Option D),hs.length=n->1<=f->(b=true->52<=f+hs.sum) ->∃L r p o j,L.length=n/\fK m KP Vb f (sL rows n N A hs b [g,d,Z])=.nx (sL rows n N A L r [p,o,j])
|0,_,_,_,_,_,_,h,_=>Q_g h (by decide)
|f+1,hs,false,g,d,Z,i,_,_=>⟨hs,false,g,d,Z,i,sr (vH (bU rfl rfl))⟩
|f+1,hs,true,g,d,Z,i,_,s=>by
  have K:=R.n1;have t:=R.n7;have s:=s rfl;have q:upz hs≠[]:=by
   intro z;have:=Q_h Z5 z
   grind
  have J:vT [LN hs]=some (.int (kN (upz hs))):=by cases hs with
  |nil=>exact Q_g rfl q
  |cons a l=>show(cP ((a::l).map nD)).map _=_;rw[zz];rfl
  have c:∀{z:Bool},decide _=z->KP (sL rows n N A hs true [g,d,Z])=.ok z:=fun e=>(rh (bU rfl rfl)).trans (bW (aj (aS (ae rfl ah) J) (aS (ae rfl ah) R.len) (by rw[<-e];rfl)));cases k:decide (kN (upz hs)<=(n:Int))with
 |false=>exact⟨hs,true,g,d,Z,i,sr (c k)⟩
 |true=>
   have Y:=by
    have:=FU (k:=n) fun x I=>by
     have K:=OS (ks:=upz hs) (F_.mpr ⟨x,I,rfl⟩)
     grind
    rw[i]at this;exact Y1 this (ħ t t)
   obtain⟨y,C,O,B⟩:=JF R;obtain⟨L,r,p,o,j,H,Q,P,G⟩:=vY (N:=N) (A:=A) y hs false g d Z C i;obtain⟨U,M,w,v,u,F,E⟩:=Ip R f L r p o j H (by omega) fun z=>by grind
   exact⟨U,M,w,v,u,F,(su (c k) ((ao (aM rfl)).trans (ao ((dg (eQ (aD (ae rfl (ae rfl ah)) B) rfl)).trans G)))).trans E⟩
theorem run_llh(R:Sq rows n):CV [WD rows,Ta n N A]=.ok .non\/∃hs:List Nat,hs.length=n/\CV [WD rows,Ta n N A]=.ok (LN hs):=by
 have d:=R.n7;have c:=dh (nl:=1) (cap:=[]) (fi:=aV bQ (gv 0)) (ft:=aw 0) (fe:=fun _=>Res.ok _) (r:=bP 7 [WD rows,Ta n N A]) TN (fun _=>nD 0) rfl (by rw[R.rl];omega) fun q _=>⟨_,rfl,rfl⟩
 have e:D.lst (rows.map fun _=>nD 0)=LN (t_ n 0):=by show D.lst _=D.lst _;rw[Š,ť,R.rl]
 rw[e]at c;obtain⟨hs,b,Y,U,L,a,Z⟩:=Ip R 64 (t_ n 0) true none none none (by simp) (by decide) (by simp_all);have go:KQ (bP 7 [WD rows,Ta n N A])=al (dQ eY (cL (gv 3)) (al (fun _=>Out.rt D.non) be) be) (al (bZ eY (gv 2)) be) (sL rows n N A hs b [Y,U,L]):=by exact(ao (aM c)).trans ((ao (aM rfl)).trans (ao Z))
 cases b with
|true=>exact .inl (sj (go.trans (aE ((aI (bU rfl rfl)).trans rfl))))
|false=>exact .inr ⟨hs,a,sj (go.trans ((ao ((aJ (bU rfl rfl)).trans (e_skip _))).trans (aE (a9 rfl))))⟩
theorem jT{c b:Nat}(h:f r=.ok (nD c))(U:0<b)(L:b<1073741824):f2 f (fun _=>Res.ok (D.int (b:Int))) fH r=.ok (nD (c/b)):=aj h rfl (by rw[zE (⟨by omega,by omega⟩)];rfl)
theorem nb{c b:Nat}(h:f r=.ok (nD c))(L:0<b):f2 f (fun _=>Res.ok (D.int (b:Int))) bn r=.ok (nD (c%b)):=aj h rfl (iu L)
theorem iK{c b:Nat}(h:f r=.ok (nD c)):bj (f2 f (fun _=>Res.ok (D.int (b:Int))) eqD) r=.ok (decide (c=b)):=bW (aj h rfl (jR c b))
theorem cy{c a b:Nat}(h:f r=.ok (nD c))(Y:0<a)(U:a<1073741824)(L:0<b):f2 (f2 f (fun _=>Res.ok (D.int (a:Int))) fH) (fun _=>Res.ok (D.int (b:Int))) bn r=.ok (nD (c/a%b)):=nb (jT h Y U) L
theorem dH{L:Type}{P:L->Prop}{g:L->Out}(h:X=Y)(k:∃d,P d/\Y=g d):∃d,P d/\X=g d:=by rw[h];exact k
theorem gq{U:Type}{P:U->Prop}{g:U->Out}{Good:am->Prop}(h:∃L,Good L/\Y r=.nx L)(k:∀L,Good L->∃d,P d/\f3 L=g d):∃d,P d/\al Y f3 r=g d:=by obtain⟨L,a,Z⟩:=h;exact dH (ao Z) (k L a)
theorem FG{a:Type}{P:a->Prop}{g:a->Out}{c b f3:FS}{r:am}{Good:am->Prop}(h:(f r=.ok .non/\∃L,c (r.set i (some .non))=.nx L/\Good L)\/∃ds,f r=.ok (.lst ds)/\∃L,b (r.set i (some (.lst ds)))=.nx L/\Good L)(k:∀L,Good L->∃d,P d/\f3 L=g d):∃d,P d/\iF m i f c b f3 r=g d:=by
 rcases h with⟨Z,L,Y,U⟩|⟨ds,Z,L,Y,U⟩
 .exact dH ((QH Z).trans (ao Y)) (k L U)
 .exact dH ((QG Z).trans (ao Y)) (k L U)
abbrev sM(ns:List Int)(rows:List (List Nat))(n N:Nat)(A:Nat->Nat->Nat)(c:Nat)(hs:List Int)(l:am):am:=some (IN ns)::some (WD rows)::some (Ta n N A)::some (nD c)::some (WI false hs)::l
theorem rD(l:List Nat):LN l=WI false (upz l):=by show D.lst _=D.lst _;rw[r_];rfl
theorem wF{α β}(f:α->β):∀(l:List α)(a:Nat),(l.map f).eraseIdx a=(l.eraseIdx a).map f
|[],_=>rfl
|_::_,0=>rfl
|x::l,a+1=>Q_h _ (wF f l a)
theorem TY(U:List Int)(R:Sq rows n):∃hs:List Int,hs.length<=60/\KJ [IN U,WD rows,Ta n N A]=.ok (WI false hs):=by
 have u:=R.n1;have C:=R.n7;obtain⟨c,B⟩:=jp U 26 (by decide);have y:∀{r:am},bh r 1=.ok (WD rows)->bh r 3=.ok (nD c)->(bO 1 [3] r=[none,some (nD c)])->db 1 [3] (cZ cR (ak (fC (ak (gv 1) ag) lenD) ag)) (aw 0) (fun _=>Res.ok true) (f2 (f2 (gv 1) (f2 (ci 4) (f2 (ci 3) (gv 0) bK) addA) fH) (ci 9) bn) r=.ok (WI false (upz ((d_ n).map fun k=>c/(4+3*k)%9))):=fun{r} g1 g3 g4=>by
  refine(dh (l:=d_ n) nD (fun k=>nD (c/(4+3*k)%9)) (fX (ae (aS (ae g1 ah) R.len) ah) (fW (by omega))) (by simp;omega) fun k q=>⟨[some (nD k),some (nD c)],by rw[g4];rfl,?_⟩).trans ?_
  .have q:=n_.mp q;refine aj (aj (a:=nD c) (b:=nD (4+3*k)) rfl (aj rfl (aj (d:=nD (3*k)) rfl rfl ?_) ?_) ?_) rfl (iu (by decide))
   .rw[jn (.inr ⟨by omega,by omega⟩)];rfl
   .show some (D.int ((4:Int)+((3*k:Nat):Int)))=_;congr 2
   .rw[zE (⟨by omega,by omega⟩:iS (c:Int) ((4+3*k:Nat):Int))];rfl
  .rw[<-rD];show Res.ok (D.lst _)=Res.ok (D.lst _);rw[r_];rfl
 have m:∃hs:List Int,hs.length<=60/\CZ (bP 6 [IN U,WD rows,Ta n N A])=.rt (WI false hs):=by
  dsimp only[CZ,BY]
  refine dH (ao (aM (aD (ae rfl (ae rfl ah)) B))) ?_;refine FG (Good:=fun s=>∃hs:List Int,hs.length=n/\s=sM U rows n N A c hs [none]) ?_ fun j ⟨hs,Y,Z⟩=>?_
  .have new:∀x,∃hs:List Int,hs.length=n/\[some (IN U),some (WD rows),some (Ta n N A),some (nD c),x,none].set 4 (some (WI false (upz ((d_ n).map fun k=>c/(4+3*k)%9))))=sM U rows n N A c hs [none]:=fun x=>⟨_,by simp,rfl⟩
   rcases run_llh (N:=N) (A:=A) R with h|⟨hs,Y,h⟩
   .exact .inl ⟨aD (ae rfl (ae rfl ah)) h,_,(aI (cG (bW (aj (a:=.non) rfl rfl rfl)))).trans (ao (aM (y rfl rfl rfl))),new _⟩
   .refine .inr ⟨_,aD (ae rfl (ae rfl ah)) h,?_⟩;have p:bj (f2 (gv 4) (fun _=>Res.ok D.non) qG) (sM U rows n N A c (upz hs) [none])=.ok false:=bW (aj (a:=WI false (upz hs)) rfl rfl rfl);have i:=iK (b:=3) (nb (f:=gv 3) (r:=sM U rows n N A c (upz hs) [none]) (c:=c) (b:=4) rfl (by decide));have w:([some (IN U),some (WD rows),some (Ta n N A),some (nD c),none,none].set 4 (some (LN hs)):am)=sM U rows n N A c (upz hs) [none]:=by rw[rD];rfl
    by_cases k:c%4=3
    .rw[Q_d k]at i;exact⟨_,(Q_h _ w).trans ((aI ((aQ p).trans i)).trans (ao (aM (y rfl rfl rfl)))),new _⟩
    .rw[Q_c k]at i;exact⟨_,(Q_h _ w).trans ((aJ ((aQ p).trans i)).trans (e_skip _)),upz hs,by simpa using Y,rfl⟩
  subst Z;have g:∀hs:List Int,lenD [WI false hs]=some (nD hs.length):=fun hs=>by rw[h8,b_]
  refine dH (ao (aM (d:=nD (c/4%n)) (aj (jT (b:=4) rfl (by decide) (by decide)) (aS (ae rfl ah) (g hs)) (by rw[Y];exact iu u)))) ?_;have L:c/4%n<n:=YU _ u;generalize c/4%n=a at L;have t:∀(b:Nat)(hs:List Int),bj (f2 (f2 (f2 (gv 3) (ci 28) fH) (ci 8) bn) (fun _=>Res.ok (D.int (b:Int))) eqD) (sM U rows n N A c hs [some (nD a)])=.ok (decide (c/28%8=b)):=fun b hs=>iK (cy (a:=28) (b:=8) rfl (by decide) (by decide) (by decide));refine gq (Good:=fun s=>∃hs:List Int,a<hs.length/\hs.length<=20/\s=sM U rows n N A c hs [some (nD a)]) ?_ fun j ⟨hs,Y,o,Z⟩=>?_
  .by_cases k:c/28%8=1
   .have e:=t 1 hs;rw[Q_d k]at e;exact⟨_,⟨hs.set a (gI hs a+(c/224%5:Nat)-2),by rw[YN];omega,by rw[YN];omega,rfl⟩,(aI e).trans (ao ((jk (d:=WI false hs) (k:=nD a) (v:=.int (gI hs a+(c/224%5:Nat)-2)) rfl (aj (aj (aj rfl rfl (oz (by omega))) (cy (a:=224) (b:=5) rfl (by decide) (by decide) (by decide)) rfl) rfl rfl) rfl (oP (by rw[b_];omega))).trans (by rw[<-Ĵ];rfl)))⟩
   .have e:=t 1 hs;rw[Q_c k]at e;exact⟨_,⟨hs,by omega,by omega,rfl⟩,(aJ e).trans (e_skip _)⟩
  subst Z;refine gq (Good:=fun s=>∃hs:List Int,a<hs.length/\hs.length<=30/\s=sM U rows n N A c hs [some (nD a)]) ?_ fun j ⟨hs,Y,o,Z⟩=>?_
  .have e:=t 5 hs;by_cases k:c/28%8=5
   .rw[Q_d k]at e;exact⟨_,⟨hs++[((c/224%9:Nat):Int)],by rw[D_];omega,by rw[D_];simp;omega,rfl⟩,(aI e).trans (ao ((iw (d:=WI false hs) rfl rfl (ae (cy (a:=224) (b:=9) rfl (by decide) (by decide) (by decide)) ah) (kl (by rw[b_];omega))).trans (by show Out.nx [_,_,_,_,some (D.lst _),_]=Out.nx [_,_,_,_,some (D.lst ((hs++[_]).map D.int)),_];rw[M_];rfl)))⟩
   .rw[Q_c k]at e;exact⟨_,⟨hs,by omega,by omega,rfl⟩,(aJ e).trans (e_skip _)⟩
  subst Z;refine gq (Good:=fun s=>∃hs:List Int,hs.length<=30/\s=sM U rows n N A c hs [some (nD a)]) ?_ fun j ⟨hs,Y,Z⟩=>?_
  .have e:=t 3 hs;by_cases k:c/28%8=3
   .rw[Q_d k]at e;refine⟨_,⟨hs.eraseIdx a,by have:=QcR hs a;omega,rfl⟩,(aI e).trans (ao ((iw (d:=WI false hs) (d':=.lst ((hs.map D.int).eraseIdx a)) rfl rfl (ae rfl ah) ?_).trans ?_))⟩
    .show(if _ then some (D.lst ((hs.map D.int).eraseIdx (a:Int).toNat))else none)=_;rw[Q_e ⟨by omega,by rw[b_];assumption,by rw[b_];omega⟩,W_]
    .show Out.nx [_,_,_,_,some (D.lst _),_]=Out.nx [_,_,_,_,some (D.lst ((hs.eraseIdx a).map D.int)),_];rw[wF]
   .rw[Q_c k]at e;exact⟨_,⟨hs,by omega,rfl⟩,(aJ e).trans (e_skip _)⟩
  subst Z;refine gq (Good:=fun s=>∃hs:List Int,hs.length<=30/\s=sM U rows n N A c hs [some (nD a)]) ?_ fun j ⟨hs,Y,Z⟩=>?_
  .have e:=t 7 hs;by_cases k:c/28%8=7
   .rw[Q_d k]at e;have z:gS (.int 10) (.int 20)=some (.int ((10^20:Nat):Int)):=by rw[gS,intsC_int,Q_e (by decide)];rfl
    refine⟨_,⟨hs.map fun x=>x+((c/224%10^20:Nat):Int),by rw[b_];omega,rfl⟩,(aI e).trans (ao ((aM (dh (l:=hs) D.int (fun x=>D.int (x+((c/224%10^20:Nat):Int))) rfl (by omega) fun x _=>⟨[some (.int x),some (nD c)],rfl,aj rfl (aj (jT (b:=224) rfl (by decide) (by decide)) (aj rfl rfl z) (iu (by decide))) rfl⟩)).trans ?_))⟩;show Out.nx [_,_,_,_,some (D.lst _),_]=Out.nx [_,_,_,_,some (D.lst (Zd D.int (Zd _ hs))),_];rw[r_];rfl
   .rw[Q_c k]at e;exact⟨_,⟨hs,by omega,rfl⟩,(aJ e).trans (e_skip _)⟩
  subst Z;exact⟨hs,by omega,aE (a9 rfl)⟩
 obtain⟨hs,Y,e⟩:=m;exact⟨hs,Y,cU e⟩
section
variable{f:Nat}{st:List (Nat×Nat×Nat)}{p:List (Nat×Nat)}
theorem QB{p:FQ}{b:FS}(h:p r=.ok true)(L:b r=.rt v):fK m p b (n+1) r=.rt v:=by
 conv=>lhs;unfold fK
 rw[h,onE_ok,Q_e rfl,L]
abbrev nP(q:Nat×Nat):D:=.tup [nD q.1,nD q.2]
abbrev mI(n:Nat)(q:Nat×Nat):Prop:=q.1<n/\q.2<n
abbrev sW(rows:List (List Nat))(n N:Nat)(A:Nat->Nat->Nat)(f:Nat)(st:List (Nat×Nat×Nat))(p:List (Nat×Nat))(t:Nat)(l:am):am:=some (WD rows)::some (Ta n N A)::some (nD f)::some (.lst (st.map s3))::some (.lst (p.map nP))::some (nD t)::l
theorem G9(h:bh r 4=.ok (.lst (p.map nP)))(L:p.length<=60):db 2 [] (aV bQ (gv 4)) (cE (ba (aw 0) (ba (aw 1) cD))) (fun _=>Res.ok true) (gv 1) r=.ok (LN (p.map (·.2))):=(dh nP _ (eQ h rfl) (by omega) fun q _=>⟨_,rfl,rfl⟩).trans (by simp_all)
theorem walk(h7:n<=7)(hs:∀q∈st,kO n q)(hl:st.length<=400):∀(k s:Nat)(p:List (Nat×Nat))(t:Nat)(u o j h:Option D),n<k+p.length->k<=s->(p.map (·.2)).Nodup->(∀q∈p,mI n q)->t<n ->fK m uI uH s (sW rows n N A f st p t [u,o,j,h])=.rt .non\/∃y t' H G F E,(∀q∈y,mI n q)/\y.length<=7/\t'∈y.map (·.2)/\fK m uI uH s (sW rows n N A f st p t [u,o,j,h])=.nx (sW rows n N A f st y t' [H,G,F,E]):=by
 intro k;have B:∀{p:List (Nat×Nat)},(p.map (·.2)).Nodup->(∀q∈p,mI n q)->p.length<=n:=fun{p} nd hp=>by
  have:=nd.length_le_of_subset (l₂:=d_ n) fun x S=>by obtain⟨q,I,rfl⟩:=F_.mp S;exact n_.mpr (hp q I).2
  rwa[b_,Yv]at this
 induction k with
|zero=>intro s p t u o j h X _ nd hp;have:=B nd hp;omega
|succ k R=>
  intro s p t u o j h X Cl nd hp ht;have W:=B nd hp;obtain⟨s,rfl⟩:∃g,s=g+1:=⟨s-1,by omega⟩
  have c:uI (sW rows n N A f st p t [u,o,j,h])=.ok (! decide (t∈p.map (·.2))):=bW (aj rfl (G9 rfl (by omega)) (L7 _ _));by_cases C:t∈p.map (·.2)
  .rw[Q_d C]at c;exact .inr ⟨p,t,u,o,j,h,hp,by omega,C,sr c⟩
  .rw[Q_c C]at c;have K:=l0 (nl:=1) (cap:=[5]) (fi:=aV bQ (gv 3)) (ft:=aw 0) (q:=bj (f2 (f2 (gv 0) (ci 1) aF) (gv 1) eqD)) (fe:=gv 0) (r:=sW rows n N A f st p t [u,o,j,h]) (l:=st) s3 (fun q=>decide (q.2.1=t)) s3 (eQ rfl rfl) (by omega) fun q _=>⟨[some (s3 q),some (nD t)],rfl,bW (aj (aj rfl rfl (hZ (i:=1) rfl)) rfl (jR _ _)),fun _=>rfl⟩
   have M:∀q∈st.filter (fun q=>decide (q.2.1=t)),kO n q/\q.2.1=t:=fun q I=>by obtain⟨h1,h2⟩:=Zp.mp I;exact⟨hs q h1,Q_j h2⟩
   generalize st.filter (fun q=>decide (q.2.1=t))=w at K M;have e0:eqD (.lst (w.map s3)) (.lst [])=some (.bl (decide (w=[]))):=by unfold eqD;rw[zD rfl (pe.mpr fun d J=>by obtain⟨x,_,rfl⟩:=F_.mp J;exact lz.mpr (by simp[cn])) (pe.mpr fun d J=>Q_g J (by simp))];cases w <;> rfl
   have Q:∀{b:Bool},decide (w=[])=b->bj (f2 (gv 6) (jE ag) eqD) (sW rows n N A f st p t [some (.lst (w.map s3)),o,j,h])=.ok b:=fun e=>bW (aj rfl (eN ah (by simp)) (by rw[e0,e]));by_cases U:w=[]
   .exact .inl (QB c ((ao (aM K)).trans (aE ((aI (Q (Q_d U))).trans (aE rfl)))))
   .have hwl:0<w.length:=Zm.mpr U;have O:f*7%w.length<w.length:=YU _ hwl;obtain⟨L,Z⟩:=M _ (Zv O);have Y:aF (.lst (w.map s3)) (nD (f*7%w.length))=some (s3 w[f*7%w.length]):=dX (by rw[l_,g_ O];rfl);generalize w[f*7%w.length]=q at L Z Y;have ac:((p++[(q.1,q.2.1)]).map (·.2)).Nodup:=by
     rw[M_,List.nodup_append];refine⟨nd,by simp,fun a ha b P=>?_⟩;rw[Yx,QfE,List.mem_singleton]at P
     rintro rfl
     exact C (by rw[<-Z,<-show a=q.2.1 from P];exact ha)
    have BT:∀r∈p++[(q.1,q.2.1)],mI n r:=fun r T=>by
     rcases ZH.mp T with z|z
     .exact hp r z
     .rw[YA.mp z];exact⟨L.1,L.2.1⟩
    have v:uH (sW rows n N A f st p t [u,o,j,h])=.nx (sW rows n N A f st (p++[(q.1,q.2.1)]) q.2.2 [some (.lst (w.map s3)),some (nD q.1),some (nD q.2.1),some (nD q.2.2)]):=by
     refine(ao (aM K)).trans ((ao ((aJ (Q (Q_c U))).trans (e_skip _))).trans ?_);refine(ao (rP (d:=s3 q) (r':=sW rows n N A f st p t [some (.lst (w.map s3)),some (nD q.1),some (nD q.2.1),some (nD q.2.2)]) (aj (a:=.lst (w.map s3)) (b:=nD (f*7%w.length)) rfl (aj (a:=nD (f*7)) (b:=nD w.length) (aj rfl rfl ?_) (aS (ae rfl ah) ?_) (iu hwl)) Y) rfl)).trans ?_
     .rw[jn (.inr ⟨by decide,by decide⟩)];rfl
     .show some (D.int _)=_;rw[b_]
     refine(ao (iw (d:=.lst (p.map nP)) rfl rfl (ae (cz (ae (d:=nD q.1) rfl (ae (d:=nD q.2.1) rfl ah)) (by simp)) ah) (kl (by rw[b_];omega)))).trans ((ao (aM (d:=nD q.2.2) rfl)).trans ?_);show Out.nx [_,_,_,_,some (D.lst _),_,_,_,_,_]=Out.nx [_,_,_,_,some (D.lst ((p++[_]).map nP)),_,_,_,_,_];rw[M_];rfl
    rcases R s (p++[(q.1,q.2.1)]) q.2.2 (some (.lst (w.map s3))) (some (nD q.1)) (some (nD q.2.1)) (some (nD q.2.2)) (by rw[D_,Yz];omega) (by omega) ac BT L.2.2 with z|⟨y,t',H,G,F,E,z1,z2,z3,z4⟩
    .exact .inl ((su c v).trans z)
    .exact .inr ⟨y,t',H,G,F,E,z1,z2,z3,(su c v).trans z4⟩
theorem Ih{i:Nat}(h:i<=ds.length):kz (.lst ds) (some (i:Int)) none=some (.lst (ds.drop i)):=by show some _=_;unfold aT;rw[HT.cA,HT.cx,Qdi h,Ŝ (by simp)]
theorem run_walked(R:Sq rows n)(Z:f<n):nU [WD rows,Ta n N A,nD f]=.ok .non\/∃p:List (Nat×Nat),p≠[]/\p.length<=7/\(∀q∈p,mI n q)/\nU [WD rows,Ta n N A,nD f]=.ok (.lst (p.map nP)):=by
 obtain⟨o,h,c,b⟩:=JF (N:=N) (A:=A) R;have a:=R.n7;have st0:∀{g:FS}{d:D},g _=.rt d->al (aY kF 3 (bx (ak (gv 0) (ak (gv 1) ag)) [] nI)) (al (aY kF 4 (jE ag)) (al (aY iE 5 (gv 2)) g)) (bP 10 [WD rows,Ta n N A,nD f])=.rt d:=fun e=>(ao (aM (aD (ae rfl (ae rfl ah)) b))).trans ((ao (aM (d:=.lst []) (eN ah (by simp)))).trans ((ao (aM (d:=nD f) rfl)).trans e));rcases walk (rows:=rows) (N:=N) (A:=A) (f:=f) a h c (n+1) 64 [] f none none none none (by simp) (by omega) (by simp) (fun _ z=>nomatch z) Z with z|⟨p,t,m,l,k,j,U,i,z3,L⟩
 .refine .inl (sj (n:=10) ?_);unfold CN;exact st0 (aE z)
 .have hi:(p.map (·.2)).idxOf t<p.length:=by have:=Z2 z3;simp_all
  refine .inr ⟨p.drop ((p.map (·.2)).idxOf t),?_,by grind,fun q Y=>U q (QdG Y),sj (n:=10) ?_⟩
  .intro e;have:=Q_h Z5 e
   grind
  unfold CN;refine st0 ((ao L).trans (aE (a9 ?_)));rw[fV rfl (fA (oh (G9 rfl (by omega)) rfl (ae (d:=nD t) rfl ah) (PN z3))) rfl (Ih (by grind)),<-Ğ];rfl
end
variable{c:Nat}{ns:List Int}
theorem uQ{a b c d:D}(h:k<4){P:D->Prop}(Z:P a)(Y:P b)(U:P c)(L:P d):∃x,P x/\aF (.lst [a,b,c,d]) (nD k)=some x:=match k,h with
|0,_=>⟨a,Z,dX rfl⟩
|1,_=>⟨b,Y,dX rfl⟩
|2,_=>⟨c,U,dX rfl⟩
|3,_=>⟨d,L,dX rfl⟩
abbrev sR(ns:List Int)(rows:List (List Nat))(n N:Nat)(A:Nat->Nat->Nat)(c:Nat)(x:D)(l:am):am:=some (IN ns)::some (WD rows)::some (Ta n N A)::some (nD c)::some (nD n)::some x::l
abbrev nL(p:List (Nat×Nat)):D:=.lst (p.map nP)
abbrev Ps(k:Nat)(d:D):Prop:=∃a b:Int,d=aA (a,b)/\a.natAbs<k/\b.natAbs<k
theorem EK(hN:0<N)(h:N<=720){a:Nat}(L:a<=N):Ps 1024 (Qn N a):=by have:Bd 10 (lo N a):=Bd.low hN (by omega) (by rw[Z_];omega);exact⟨(lo N a).1,(lo N a).2,rfl,this.top,by have:=this.bot;rw[Z_];exact this⟩
theorem yT(hN:Nn N)(r:N<=720)(d0 d1 d2 j i h g f L:Option D):∀(l:List Nat)(a:Nat)(m:Option D),a<=N->(∀x∈l,x<=N)->∃U Y,U<=N/\aZ (aw 9) U6 (l.map (Qn N)) [d0,d1,d2,j,i,h,g,some (Qn N a),f,m,L]=.nx [d0,d1,d2,j,i,h,g,some (Qn N U),f,Y,L]
|[],a,m,c,_=>⟨a,m,c,fq⟩
|x::l,a,m,c,q=>by
  have s:=q x m_;obtain⟨u,v,e,z,w⟩:=EK hN.pos r c;have t:0<v:=by
   have:Bd 100 (lo N a):=lj hN c;have A:(lo N a).2=v:=by simp_all
   have:=this.pos;omega
  have Z:=E4 hN s (a:=u) (b:=v) ⟨by omega,by omega⟩ t;rw[<-e]at Z;cases k:decide ((x:Int)*v<u*N)with
 |true=>rw[k]at Z;obtain⟨U,Y,o,n⟩:=yT hN r d0 d1 d2 j i h g f L l x (some (Qn N x)) s fun y p=>q y (k_ _ p);refine⟨U,Y,o,(dL (r1:=[d0,d1,d2,j,i,h,g,some (Qn N a),f,some (Qn N x),L]) rfl (ao ((aI (bU (aD (ae (d:=Qn N x) rfl (ae (d:=Qn N a) rfl ah)) Z) rfl)).trans (ao (aM (d:=Qn N x) rfl))))).trans n⟩
 |false=>rw[k]at Z;obtain⟨U,Y,o,n⟩:=yT hN r d0 d1 d2 j i h g f L l a (some (Qn N x)) c fun y p=>q y (k_ _ p);refine⟨U,Y,o,(dL rfl (ao ((aJ (bU (aD (ae (d:=Qn N x) rfl (ae (d:=Qn N a) rfl ah)) Z) rfl)).trans (e_skip _)))).trans n⟩
theorem re(k:Nat):addA (.int 1) (nD k)=some (nD (1+k)):=by simp_all
theorem Fu{a b:List D}(h:a.length+b.length<=1000):catL (.lst a) (.lst b)=some (.lst (a++b)):=Q_e (by rw[O_];omega)
theorem Vv(p:List (Nat×Nat)):nL p=bG false (cast2 p):=by show D.lst _=D.lst _;rw[r_];rfl
theorem Ev(h:k<rg.length):∃q:Int×Int,aF (bG false rg) (nD k)=some (aA q):=⟨rg[k],dX (by rw[l_,g_ h];rfl)⟩
theorem Qq(o:List Int)(R:Sq rows n)(hN:Nn N)(h9:N<=720)(hA:∀h x,h<n->x<n->A h x<=N):∃d:List (Int×Int)×Int×Int,(d.1.length<=60/\Pb d.2.1 d.2.2)/\CP (bP 11 [IN o,WD rows,Ta n N A])=.rt (.tup [bG false d.1,aA (d.2.1,d.2.2)]):=by
 have K:=R.n1;have h7:=R.n7;obtain⟨c,hc⟩:=jp o 27 (by decide)
 dsimp only[CP,BP]
 refine dH (ao (aM (aD (ae rfl (ae rfl ah)) hc))) ?_;refine dH (ao (aM (d:=nD n) (aS (ae rfl ah) R.len))) ?_;have Z:c%n<n:=YU _ K;refine FG (Good:=fun s=>∃p j,p≠[]/\p.length<=8/\(∀q∈p,mI n q)/\s=sR o rows n N A c (nL p) [j,none,none,none,none]) ?_ fun y ⟨p,j,p0,p8,pn,B⟩=>?_
 .have cl:∀{r:am},bh r 1=.ok (WD rows)->bh r 2=.ok (Ta n N A)->bh r 3=.ok (nD c)->bh r 4=.ok (nD n)->∀{d},nU [WD rows,Ta n N A,nD (c%n)]=.ok d->bx (ak (gv 1) (ak (gv 2) (ak (f2 (gv 3) (gv 4) bn) ag))) [] nU r=.ok d:=fun{r} a1 a2 a3 a4 {d} e=>aD (ae a1 (ae a2 (ae (aj a3 a4 (iu K)) ah))) e;obtain⟨w,U,ac⟩:=pd (c/28) n (by omega);obtain⟨tg,Y,Cl⟩:=pd (c/3) n (by omega);have hk:1+c/20160%n<=n:=by have:=YU (c/20160) K;omega
  have I:∀{l:List Nat},l.Perm (d_ n)->∀{k},k<n->aF (TN l) (nD k)=some (nD (dA l k))/\dA l k<n:=fun{l} hp {k} hk=>by
   have hl:k<l.length:=by rw[hp.length_eq,Yv];exact hk
   refine⟨DD hl,?_⟩;have:dA l k∈l:=by have e:=iW hl;exact YV e
   exact n_.mp (hp.mem_iff.mp this)
  have nw:∀{m m':List Md}(M j:Option D),∃y,al (aY m 6 (bx (ak (f2 (gv 3) (ci 28) fH) (ak (gv 4) ag)) [] jX)) (al (aY m' 5 (db 1 [6,4,3] (cZ cR (ak (f2 (ci 1) (f2 (f2 (gv 3) (ci 20160) fH) (gv 4) bn) addA) ag)) (aw 0) (fun _=>Res.ok true) (ie (ak (f2 (gv 1) (gv 0) aF) (ak (f2 (bx (ak (f2 (gv 3) (ci 3) fH) (ak (gv 2) ag)) [] jX) (gv 0) aF) ag))))) be) [some (IN o),some (WD rows),some (Ta n N A),some (nD c),some (nD n),M,j,none,none,none,none]=.nx y/\∃p j,p≠[]/\p.length<=8/\(∀q∈p,mI n q)/\y=sR o rows n N A c (nL p) [j,none,none,none,none]:=fun{m m'} M j=>by
   refine⟨_,(ao (aM (d:=TN w) (aD (ae (jT (c:=c) (b:=28) rfl (by decide) (by decide)) (ae (d:=nD n) rfl ah)) ac))).trans (ao (aM (dh (l:=d_ (1+c/20160%n)) nD (fun k=>nP (dA w k,dA tg k)) (fX (ae (aj (a:=nD 1) (b:=nD (c/20160%n)) rfl (aj (jT (c:=c) (b:=20160) rfl (by decide) (by decide)) rfl (iu K)) ?_) ah) (fW ?_)) ?_ fun k J=>⟨[some (nD k),some (TN w),some (nD n),some (nD c)],rfl,?_⟩))),(d_ (1+c/20160%n)).map (fun k=>(dA w k,dA tg k)),some (TN w),?_,?_,?_,?_⟩
   .show some (D.int _)=some (D.int _);rw[show((1+c/20160%n:Nat):Int)=1+((c/20160%n:Nat):Int)by omega];rfl
   .omega
   .rw[Yv];omega
   .have BT:=n_.mp J;exact cz (ae (aj rfl rfl (I U (by omega)).1) (ae (aj (aD (ae (jT (c:=c) (b:=3) rfl (by decide) (by decide)) (ae (d:=nD n) rfl ah)) Cl) rfl (I Y (by omega)).1) ah)) (by simp)
   .intro e;have:=Q_h Z5 e;rw[b_,Yv,į]at this;omega
   .rw[b_,Yv];omega
   .intro q hq;obtain⟨k,J,rfl⟩:=F_.mp hq;have BT:=n_.mp J;exact⟨(I U (by omega)).2,(I Y (by omega)).2⟩
   .show[_,_,_,_,_,some (D.lst _),_,_,_,_,_]=[_,_,_,_,_,some (D.lst (Zd nP (Zd _ _))),_,_,_,_,_]
    rw[r_];rfl
  rcases run_walked (N:=N) (A:=A) R Z with z|⟨p,z1,z2,z3,z4⟩
  .obtain⟨y,e1,e2⟩:=nw (m:=qz) (m':=qz) (some .non) none;exact .inl ⟨cl rfl rfl rfl rfl z,y,(aI (cG (bW (aj (a:=.non) rfl rfl rfl)))).trans e1,e2⟩
  .refine .inr ⟨_,cl rfl rfl rfl rfl z4,?_⟩;have t0:bj (f2 (gv 5) (fun _=>Res.ok D.non) qG) (sR o rows n N A c (nL p) [none,none,none,none,none])=.ok false:=bW (aj (a:=nL p) rfl rfl rfl);have t1:=iK (b:=3) (cy (f:=gv 3) (r:=sR o rows n N A c (nL p) [none,none,none,none,none]) (c:=c) (a:=7) (b:=4) rfl (by decide) (by decide) (by decide));by_cases k:c/7%4=3
   .rw[Q_d k]at t1;obtain⟨y,e1,e2⟩:=nw (m:=qy) (m':=qy) (some (nL p)) none;exact⟨y,(aI ((aQ t0).trans t1)).trans e1,e2⟩
   .rw[Q_c k]at t1;exact⟨_,(aJ ((aQ t0).trans t1)).trans (e_skip _),p,none,z1,by omega,z3,rfl⟩
 subst B;refine dH (ao (aM (d:=aA (((1+c/28%4:Nat):Int),((1+c/112%60:Nat):Int))) (cz (ae (aj rfl (cy (c:=c) (a:=28) (b:=4) rfl (by decide) (by decide) (by decide)) (re _)) (ae (aj rfl (cy (c:=c) (a:=112) (b:=60) rfl (by decide) (by decide) (by decide)) (re _)) ah)) (by simp)))) ?_;have sh:∀{r:am},bh r 5=.ok (nL p)->bO 2 [2] r=[none,none,some (Ta n N A)]->db 2 [2] (aV bQ (gv 5)) (cE (ba (aw 0) (ba (aw 1) cD))) (fun _=>Res.ok true) (f2 (f2 (gv 2) (gv 0) aF) (gv 1) aF) r=.ok (.lst ((p.map fun q=>A q.1 q.2).map (Qn N))):=fun{r} g1 g2=>by refine(dh (l:=p) nP (fun q=>Qn N (A q.1 q.2)) (eQ g1 rfl) (by omega) fun q hq=>⟨[some (nD q.1),some (nD q.2),some (Ta n N A)],by rw[g2];rfl,aj (aj rfl rfl (oy (pn q hq).1)) rfl (oB (pn q hq).2)⟩).trans ?_;rw[r_];rfl
 refine dH (ao (aM (sh rfl rfl))) ?_;have le:∀x∈p.map (fun q=>A q.1 q.2),x<=N:=fun x hx=>by obtain⟨q,hq,rfl⟩:=F_.mp hx;exact hA _ _ (pn q hq).1 (pn q hq).2
 generalize hS:p.map (fun q=>A q.1 q.2)=S at le;have S0:0<S.length:=by rw[<-hS,b_];exact Zm.mpr p0
 refine gq (Good:=fun s=>∃u v C,u.natAbs<4096/\v.natAbs<4096/\s=sR o rows n N A c (nL p) [j,some (aA (u,v)),some (.lst (S.map (Qn N))),C,none]) ?_ fun y ⟨u,v,C,hu,hv,B⟩=>?_
 .have t:∀{x7:Option D}{b:Bool},decide (c/7%4<2)=b->bj (f2 (f2 (f2 (gv 3) (ci 7) fH) (ci 4) bn) (ci 2) ltI) (sR o rows n N A c (nL p) [j,x7,some (.lst (S.map (Qn N))),none,none])=.ok b:=fun e=>bW (aj (cy (c:=c) (a:=7) (b:=4) rfl (by decide) (by decide) (by decide)) rfl ((lQ _ 2).trans (by rw[e])));by_cases k:c/7%4<2
  .have hx0:aF (.lst (S.map (Qn N))) (.int 0)=some (Qn N (dA S 0)):=dX (i:=0) (by rw[l_,iW S0];rfl);obtain⟨a',y9,i1,i2⟩:=yT hN h9 (some (IN o)) (some (WD rows)) (some (Ta n N A)) (some (nD c)) (some (nD n)) (some (nL p)) j (some (.lst (S.map (Qn N)))) none S (dA S 0) none (le _ (YV (iW S0))) le;obtain⟨u,v,e,K,h2⟩:=EK hN.pos h9 i1;rw[e]at i2;have Q:aF (aA (u,v)) (.int 0)=some (.int u):=rfl;have O:aF (aA (u,v)) (.int 1)=some (.int v):=hZ (i:=1) rfl;obtain⟨d,⟨G,F,X,b1,b2⟩,w⟩:=uQ (k:=c/28%4) (YU _ (by decide)) (P:=fun d=>∃G F:Int,d=aA (G,F)/\G.natAbs<4096/\F.natAbs<4096) (a:=aA (u,v)) (b:=aA (3*u,3*v)) (c:=aA (u,v+1)) (d:=aA (u+1,v)) ⟨_,_,rfl,by omega,by omega⟩ ⟨_,_,rfl,by omega,by omega⟩ ⟨_,_,rfl,by omega,by omega⟩ ⟨_,_,rfl,by omega,by omega⟩;rw[X]at w;refine⟨_,⟨G,F,y9,b1,b2,rfl⟩,(aI (t (Q_d k))).trans ((ao (aM (d:=Qn N (dA S 0)) (aj rfl rfl hx0))).trans ((ao ((dg (eQ rfl rfl)).trans i2)).trans (ao (aM (aj (eN (ae (d:=aA (u,v)) rfl (ae (cz (ae (aj rfl (aj rfl rfl Q) (jn (.inl ⟨by omega,by omega⟩))) (ae (aj rfl (aj rfl rfl O) (jn (.inl ⟨by omega,by omega⟩))) ah)) (by simp)) (ae (cz (ae (aj rfl rfl Q) (ae (aj (aj rfl rfl O) rfl rfl) ah)) (by simp)) (ae (cz (ae (aj (aj rfl rfl Q) rfl rfl) (ae (aj rfl rfl O) ah)) (by simp)) ah)))) (by simp)) (cy (c:=c) (a:=28) (b:=4) rfl (by decide) (by decide) (by decide)) w)))))⟩
  .exact⟨_,⟨_,_,none,by omega,by omega,rfl⟩,(aJ (t (Q_c k))).trans (e_skip _)⟩
 subst B;have t:∀(b:Nat)(M:D)(l:am),bj (f2 (f2 (f2 (gv 3) (ci 56) fH) (ci 8) bn) (fun _=>Res.ok (D.int (b:Int))) eqD) (sR o rows n N A c M l)=.ok (decide (c/56%8=b)):=fun b M l=>iK (cy (c:=c) (a:=56) (b:=8) rfl (by decide) (by decide) (by decide));refine gq (Good:=fun s=>∃u v,Pb u v/\s=sR o rows n N A c (nL p) [j,some (aA (u,v)),some (.lst (S.map (Qn N))),C,none]) ?_ fun y ⟨u,v,huv,B⟩=>?_
 .have tb:=t 2 (nL p) [j,some (aA (u,v)),some (.lst (S.map (Qn N))),C,none];have W:∀{u v:Int},u.natAbs<4096->v.natAbs<4096->Pb u v:=fun K h2=>⟨by omega,by omega⟩
  by_cases k:c/56%8=2
  .rw[Q_d k]at tb;have Q:aF (aA (u,v)) (.int 0)=some (.int u):=rfl;have O:aF (aA (u,v)) (.int 1)=some (.int v):=hZ (i:=1) rfl;obtain⟨d,⟨G,F,X,b1⟩,w⟩:=uQ (k:=c/448%4) (YU _ (by decide)) (P:=fun d=>∃G F:Int,d=aA (G,F)/\Pb G F) (a:=aA (0,1)) (b:=aA (-1,2)) (c:=aA (0-u,0-v)) (d:=aA (1,0)) ⟨_,_,rfl,W (by decide) (by decide)⟩ ⟨_,_,rfl,W (by decide) (by decide)⟩ ⟨_,_,rfl,W (by omega) (by omega)⟩ ⟨_,_,rfl,W (by decide) (by decide)⟩;rw[X]at w;exact⟨_,⟨G,F,b1,rfl⟩,(aI tb).trans (ao (aM (aj (eN (ae (d:=aA (0,1)) rfl (ae (d:=aA (-1,2)) rfl (ae (cz (ae (aj rfl (aj rfl rfl Q) rfl) (ae (aj rfl (aj rfl rfl O) rfl) ah)) (by simp)) (ae (d:=aA (1,0)) rfl ah)))) (by simp)) (cy (c:=c) (a:=448) (b:=4) rfl (by decide) (by decide) (by decide)) w)))⟩
  .rw[Q_c k]at tb;exact⟨_,⟨u,v,W hu hv,rfl⟩,(aJ tb).trans (e_skip _)⟩
 subst B;rw[Vv];have E:0<(cast2 p).length:=by rw[b_];exact Zm.mpr p0
 have H:(cast2 p).length<=8:=by rw[b_];exact p8
 generalize cast2 p=g at E H;refine gq (Good:=fun s=>∃g:List (Int×Int),0<g.length/\g.length<=9/\s=sR o rows n N A c (bG false g) [j,some (aA (u,v)),some (.lst (S.map (Qn N))),C,none]) ?_ fun y ⟨g,E,H,B⟩=>?_
 .have tb:=t 3 (bG false g) [j,some (aA (u,v)),some (.lst (S.map (Qn N))),C,none];by_cases k:c/56%8=3
  .rw[Q_d k]at tb;obtain⟨d,⟨q,X⟩,w⟩:=uQ (k:=c/448%4) (YU _ (by decide)) (P:=fun d=>∃q:Int×Int,d=aA q) (a:=aA (-1,0)) (b:=aA (n,0)) (c:=aA (0,-1)) (d:=aA (0,n)) ⟨_,rfl⟩ ⟨_,rfl⟩ ⟨_,rfl⟩ ⟨_,rfl⟩;rw[X]at w;refine⟨_,⟨g++[q],by rw[D_];omega,by rw[D_,Yz];omega,rfl⟩,(aI tb).trans ((ao (aM (aj (a:=bG false g) rfl (eN (ae (aj (eN (ae (d:=aA (-1,0)) rfl (ae (d:=aA (n,0)) rfl (ae (d:=aA (0,-1)) rfl (ae (d:=aA (0,n)) rfl ah)))) (by simp)) (cy (c:=c) (a:=448) (b:=4) rfl (by decide) (by decide) (by decide)) w) ah) (by simp)) (Fu (by rw[b_,Yz];omega))))).trans ?_)⟩;show Out.nx [_,_,_,_,_,some (D.lst _),_,_,_,_,_]=Out.nx [_,_,_,_,_,some (D.lst ((g++[q]).map aA)),_,_,_,_,_];rw[M_];rfl
  .rw[Q_c k]at tb;exact⟨_,⟨g,E,by omega,rfl⟩,(aJ tb).trans (e_skip _)⟩
 subst B;refine gq (Good:=fun s=>∃g:List (Int×Int),0<g.length/\g.length<=18/\s=sR o rows n N A c (bG false g) [j,some (aA (u,v)),some (.lst (S.map (Qn N))),C,none]) ?_ fun y ⟨g,E,H,B⟩=>?_
 .have tb:=t 5 (bG false g) [j,some (aA (u,v)),some (.lst (S.map (Qn N))),C,none];by_cases k:c/56%8=5
  .rw[Q_d k]at tb;refine⟨_,⟨g++g,by rw[D_];omega,by rw[D_];omega,rfl⟩,(aI tb).trans ((ao (aM (aj (a:=bG false g) (b:=bG false g) rfl rfl (Fu (by rw[b_];omega))))).trans ?_)⟩;show Out.nx [_,_,_,_,_,some (D.lst _),_,_,_,_,_]=Out.nx [_,_,_,_,_,some (D.lst ((g++g).map aA)),_,_,_,_,_];rw[M_]
  .rw[Q_c k]at tb;exact⟨_,⟨g,E,by omega,rfl⟩,(aJ tb).trans (e_skip _)⟩
 subst B;refine dH (ao (aM (d:=nD (c/448%g.length)) (aj (jT (c:=c) (b:=448) rfl (by decide) (by decide)) (aS (ae (d:=bG false g) rfl ah) (by rw[h8,b_])) (iu E)))) ?_;have L:c/448%g.length<g.length:=YU _ E;generalize c/448%g.length=a at L;have T:∀{g:List (Int×Int)}(q:Int×Int),a<g.length->eB (bG false g) (nD a) (aA q)=some (bG false (g.set a q)):=fun{g} q h=>(oP (by rw[b_];exact h)).trans (by show some (D.lst _)=some (D.lst ((g.set a q).map aA));rw[Ĵ]);refine gq (Good:=fun s=>∃g:List (Int×Int),a<g.length/\g.length<=18/\s=sR o rows n N A c (bG false g) [j,some (aA (u,v)),some (.lst (S.map (Qn N))),C,some (nD a)]) ?_ fun y ⟨g,E,H,B⟩=>?_
 .have tb:=t 6 (bG false g) [j,some (aA (u,v)),some (.lst (S.map (Qn N))),C,some (nD a)];by_cases k:c/56%8=6
  .rw[Q_d k]at tb;obtain⟨q,hq⟩:=Ev L;exact⟨_,⟨g.set a (q.1-n,q.2),by rw[YN];exact L,by rw[YN];exact H,rfl⟩,(aI tb).trans (ao (jk (d:=bG false g) (k:=nD a) (v:=aA (q.1-n,q.2)) rfl (cz (ae (aj (aj (aj rfl rfl hq) rfl rfl) rfl rfl) (ae (aj (aj rfl rfl hq) rfl (hZ (i:=1) rfl)) ah)) (by simp)) rfl (T _ L)))⟩
  .rw[Q_c k]at tb;exact⟨_,⟨g,L,H,rfl⟩,(aJ tb).trans (e_skip _)⟩
 subst B;refine gq (Good:=fun s=>∃g:List (Int×Int),g.length<=18/\s=sR o rows n N A c (bG false g) [j,some (aA (u,v)),some (.lst (S.map (Qn N))),C,some (nD a)]) ?_ fun y ⟨g,H,B⟩=>?_
 .have tb:=t 7 (bG false g) [j,some (aA (u,v)),some (.lst (S.map (Qn N))),C,some (nD a)];by_cases k:c/56%8=7
  .rw[Q_d k]at tb;obtain⟨q,hq⟩:=Ev E;exact⟨_,⟨g.set a (q.1,q.2-n),by rw[YN];exact H,rfl⟩,(aI tb).trans (ao (jk (d:=bG false g) (k:=nD a) (v:=aA (q.1,q.2-n)) rfl (cz (ae (aj (aj rfl rfl hq) rfl rfl) (ae (aj (aj (aj rfl rfl hq) rfl (hZ (i:=1) rfl)) rfl rfl) ah)) (by simp)) rfl (T _ E)))⟩
  .rw[Q_c k]at tb;exact⟨_,⟨g,H,rfl⟩,(aJ tb).trans (e_skip _)⟩
 subst B;exact⟨(g,u,v),⟨by show g.length<=60;omega,huv⟩,aE (a9 (cz (ae (d:=bG false g) rfl (ae (d:=aA (u,v)) rfl ah)) (by simp)))⟩
variable{G:List Int}{qs:List P3}
section
variable{a:Nat}{u v:Int}
theorem V3{a b:D}(h:k<2){P:D->Prop}(U:P a)(L:P b):∃x,P x/\aF (.lst [a,b]) (nD k)=some x:=match k,h with
|0,_=>⟨a,U,dX rfl⟩
|1,_=>⟨b,L,dX rfl⟩
theorem V2{a b c:D}(h:k<3){P:D->Prop}(Y:P a)(U:P b)(L:P c):∃x,P x/\aF (.lst [a,b,c]) (nD k)=some x:=match k,h with
|0,_=>⟨a,Y,dX rfl⟩
|1,_=>⟨b,U,dX rfl⟩
|2,_=>⟨c,L,dX rfl⟩
theorem Gu(f:L->U)(l:List L)(x y:Option Int):aT (l.map f) x y=(aT l x y).map f:=by unfold aT;rw[b_,Û,Ğ]
theorem xI{lo L:Option Int}(c:Y r=.ok d)(b:fl r=.ok lo)(a:U r=.ok L)(Z:qj d lo L=some d'):kQ Y fl U r=.ok d':=by unfold kQ;rw[c,bind_ok,b,bind_ok,a,bind_ok,Z];rfl
theorem rC(G:List Int)(x y:Option Int):qj (WI true G) x y=some (WI true (aT G x y)):=by show some _=some (D.tup _);rw[Gu]
theorem Fy(l:List L)(x y:Option Int):(aT l x y).length<=l.length:=by unfold aT;rw[Zj,Ö];omega
theorem Fs{G K:List Int}(h:0<G.length)(L:G.length+K.length<=900):addA (WI true G) (WI true K)=some (WI true (G++K)):=by match G,h with
|x::G,_=>show(if _ then some _ else none)=some (D.tup _);rw[Q_e (by rw[I_,b_,b_,O_];grind),M_];rfl
structure Qk(n M:Nat)(q:P3):Prop where
 pb:Pb q.1.1 q.1.2
 len:q.2.length<=60
 dv:Okq n q->q.1.2.toNat∣M
abbrev sP(ns:List Int)(d1:D)(n c a:Nat)(u v:Int)(G:List Int)(qs:List P3):am:=[some (IN ns),some d1,some (nD n),some (nD c),some (nD a),some (aA (u,v)),some (WI true G),some (bo false true qs)]
theorem kJ(h:a<L.length)(q:P3):eB (bo false true L) (nD a) (pI true q)=some (bo false true (L.set a q)):=(oP (by simp_all)).trans (by show some _=some (D.lst _);rw[Ĵ])
theorem sy{P:P3->Prop}{L:List P3}(h:∀x∈L,P x)(hq:P q):∀x∈L.set a q,P x:=fun x U=>(List.mem_or_eq_of_mem_set U).elim (h x) fun e=>e▸hq
structure Q0(n N:Nat)(q:P3):Prop where
 a:q.1.1.natAbs<1024
 b0:0<q.1.2
 b:q.1.2<1024
 len:q.2.length=n
 dv:q.1.2.toNat∣N
theorem Sk(l:List Int)(h0:0<qs0.length)(U:qs0.length<=20)(Z:1<=n)(hn:n<=7)(h:∀q∈qs0,Q0 n N q)(N0:0<N)(h9:N<=720):∃(M:Nat)(e:List P3),(Fit e/\Cmn n M e)/\KD [IN l,bo false true qs0,nD n]=.ok (bo false true e):=by
 obtain⟨c,hc⟩:=jp l 28 (by decide);have r:c/8%qs0.length<qs0.length:=YU _ h0;generalize ea:c/8%qs0.length=a at r;obtain⟨⟨⟨u,v⟩,G⟩,eq⟩:∃q,qs0[a]=q:=⟨_,rfl⟩
 have j:=h _ (Zv r);rw[eq]at j;obtain⟨q1,q2,q3,q4,E⟩:=j;simp only[]at q1 q2 q3 q4 E;have Y:aF (bo false true qs0) (nD a)=some (pI true ((u,v),G)):=dX (by rw[l_,g_ r,eq];rfl);refine⟨N*(2*(v.toNat+1)),?_⟩;have M0:Mm (N*(2*(v.toNat+1))):=⟨Æ N0 (by omega),by have:N*(2*(v.toNat+1))<=720*2048:=ħ h9 (by omega);omega⟩
 generalize T:N*(2*(v.toNat+1))=M at M0;have dN:∀{k:Nat},k∣N->k∣M:=fun g=>by rw[<-T];exact Nat.dvd_mul_right_of_dvd g _
 have W:(2*v).toNat∣M:=by rw[<-T,show(2*v).toNat=v.toNat*2 by omega];exact Nat.mul_dvd_mul E (QeC _ _)
 have d1:(v+1).toNat∣M:=by rw[<-T,show(v+1).toNat=v.toNat+1 by omega];exact Nat.dvd_trans (ń _ 2) (ń _ N)
 have pb:∀{u v:Int},u.natAbs<4096->v.natAbs<4096->Pb u v:=fun Q O=>⟨by omega,by omega⟩
 have p:∀{u v:Int}{G:List Int},u.natAbs<4096->v.natAbs<4096->G.length<=60->(Okq n ((u,v),G)->v.toNat∣M)->Qk n M ((u,v),G):=fun Q O h3 h4=>⟨pb Q O,h3,h4⟩
 have k0:∀q∈qs0,Qk n M q:=fun q j=>by obtain⟨q1,q2,q3,q4,E⟩:=h q j;exact⟨pb (by omega) (by omega),by omega,fun _=>dN E⟩
 have A:aF (aA (u,v)) (.int 0)=some (.int u):=rfl;have w:aF (aA (u,v)) (.int 1)=some (.int v):=hZ (i:=1) rfl;have J:∀x:Int,bK (.int 2) (.int x)=some (.int (2*x)):=fun x=>jn (.inl ⟨by decide,by decide⟩);have R:∃e:List P3,(Fit e/\Cmn n M e)/\CD (bP 8 [IN l,bo false true qs0,nD n])=.rt (bo false true e):=by
  dsimp only[CD,Bv]
  refine dH (ao (aM (aD (ae rfl (ae rfl ah)) hc))) ?_;refine dH (ao (aM (d:=nD a) (aj (jT (c:=c) (b:=8) rfl (by decide) (by decide)) (aS (ae (d:=bo false true qs0) rfl ah) (by rw[h8,b_])) (by rw[<-ea];exact iu h0)))) ?_;refine dH (ao (rP (d:=pI true ((u,v),G)) (aj rfl rfl Y) rfl)) ?_;refine dH (ao (aM (d:=bo false true qs0) (aS (ae (d:=bo false true qs0) rfl ah) rfl))) ?_;have t:∀(b:Nat)(e:List P3),bj (f2 (f2 (gv 3) (ci 8) bn) (fun _=>Res.ok (D.int (b:Int))) eqD) (sP l (bo false true qs0) n c a u v G e)=.ok (decide (c%8=b)):=fun b e=>iK (nb (c:=c) (b:=8) rfl (by decide));refine gq (Good:=fun s=>∃e:List P3,a<e.length/\e.length<=20/\(∀q∈e,Qk n M q)/\s=sP l (bo false true qs0) n c a u v G e) ?_ fun I ⟨e,L,f,g,m⟩=>?_
  .have tb:=t 1 qs0;by_cases k:c%8=1
   .rw[Q_d k]at tb;exact⟨_,⟨qs0.set a ((2*u,2*v),G),by rw[YN];exact r,by rw[YN];exact U,sy k0 (p (by omega) (by omega) (by omega) fun _=>W),rfl⟩,(aI tb).trans (ao (jk (d:=bo false true qs0) (k:=nD a) (v:=pI true ((2*u,2*v),G)) rfl (cz (ae (cz (ae (aj rfl (aj rfl rfl A) (J u)) (ae (aj rfl (aj rfl rfl w) (J v)) ah)) (by simp)) (ae (d:=WI true G) rfl ah)) (by simp)) rfl (kJ r _)))⟩
   .rw[Q_c k]at tb;exact⟨_,⟨qs0,r,U,k0,rfl⟩,(aJ tb).trans (e_skip _)⟩
  subst m;refine gq (Good:=fun s=>∃e:List P3,a<e.length/\e.length<=21/\(∀q∈e,Qk n M q)/\s=sP l (bo false true qs0) n c a u v G e) ?_ fun I ⟨e,L,f,g,m⟩=>?_
  .have tb:=t 3 e;by_cases k:c%8=3
   .rw[Q_d k]at tb;obtain⟨d,⟨K,H,F⟩,o⟩:=V3 (k:=c/72%2) (YU _ (by decide)) (P:=fun d=>∃K:List Int,d=WI true K/\K.length<=60) (a:=WI true G) (b:=WI true G.reverse) ⟨_,rfl,by omega⟩ ⟨_,rfl,by rw[List.length_reverse];omega⟩;rw[H]at o;have S:trvD [WI true G]=some (WI true G.reverse):=by show some (D.tup _)=some (D.tup _);rw[List.map_reverse]
    refine⟨_,⟨e.set a ((u,2*v),G)++[((u,2*v),K)],by rw[D_,YN];omega,by rw[D_,YN,Yz];omega,fun q j=>?_,rfl⟩,(aI tb).trans ((ao (jk (d:=bo false true e) (k:=nD a) (v:=pI true ((u,2*v),G)) rfl (cz (ae (cz (ae (aj rfl rfl A) (ae (aj rfl (aj rfl rfl w) (J v)) ah)) (by simp)) (ae (d:=WI true G) rfl ah)) (by simp)) rfl (kJ L _))).trans ((ao (iw (d:=bo false true (e.set a ((u,2*v),G))) rfl rfl (ae (cz (ae (cz (ae (aj rfl rfl A) (ae (aj rfl (aj rfl rfl w) (J v)) ah)) (by simp)) (ae (aj (eN (ae (d:=WI true G) rfl (ae (aS (ae (d:=WI true G) rfl ah) S) ah)) (by simp)) (cy (c:=c) (a:=72) (b:=2) rfl (by decide) (by decide) (by decide)) o) ah)) (by simp)) ah) (kl (by rw[b_,YN];omega)))).trans ?_))⟩
    .rcases ZH.mp j with z|z
     .exact sy g (p (by omega) (by omega) (by omega) fun _=>W) q z
     .rw[YA.mp z];exact p (by omega) (by omega) F fun _=>W
    .show Out.nx [_,_,_,_,_,_,_,some (D.lst _)]=Out.nx [_,_,_,_,_,_,_,some (D.lst ((_++[_]).map (pI true)))];rw[M_];rfl
   .rw[Q_c k]at tb;exact⟨_,⟨e,L,by omega,g,rfl⟩,(aJ tb).trans (e_skip _)⟩
  subst m;refine gq (Good:=fun s=>∃e:List P3,a<e.length/\e.length<=21/\(∀q∈e,Qk n M q)/\s=sP l (bo false true qs0) n c a u v G e) ?_ fun I ⟨e,L,f,g,m⟩=>?_
  .have tb:=t 5 e;by_cases k:c%8=5
   .rw[Q_d k]at tb;obtain⟨d,⟨C,B,H,F⟩,o⟩:=V2 (k:=c/72%3) (YU _ (by decide)) (P:=fun d=>∃C B:Int,d=aA (C,B)/\Qk n M ((C,B),G)) (a:=aA (u,v+1)) (b:=aA (-u,-v)) (c:=aA (0,1)) ⟨_,_,rfl,p (by omega) (by omega) (by omega) fun _=>d1⟩ ⟨_,_,rfl,p (by omega) (by omega) (by omega) fun z=>Q_g z.b (by show ¬ 0 < -v;omega)⟩ ⟨_,_,rfl,p (by decide) (by decide) (by omega) fun _=>Nat.one_dvd _⟩;rw[H]at o;exact⟨_,⟨e.set a ((C,B),G),by rw[YN];exact L,by rw[YN];exact f,sy g F,rfl⟩,(aI tb).trans (ao (jk (d:=bo false true e) (k:=nD a) (v:=pI true ((C,B),G)) rfl (cz (ae (aj (eN (ae (cz (ae (aj rfl rfl A) (ae (aj (aj rfl rfl w) rfl rfl) ah)) (by simp)) (ae (cz (ae (fU (aj rfl rfl A) rfl) (ae (fU (aj rfl rfl w) rfl) ah)) (by simp)) (ae (d:=aA (0,1)) rfl ah))) (by simp)) (cy (c:=c) (a:=72) (b:=3) rfl (by decide) (by decide) (by decide)) o) (ae (d:=WI true G) rfl ah)) (by simp)) rfl (kJ L _)))⟩
   .rw[Q_c k]at tb;exact⟨_,⟨e,L,f,g,rfl⟩,(aJ tb).trans (e_skip _)⟩
  subst m;refine gq (Good:=fun s=>∃e:List P3,(c%8=7->a<e.length)/\e.length<=21/\(∀q∈e,Qk n M q)/\s=sP l (bo false true qs0) n c a u v G e) ?_ fun I ⟨e,L,f,g,m⟩=>?_
  .have tb:=t 6 e;by_cases k:c%8=6
   .rw[Q_d k]at tb;refine⟨_,⟨e.eraseIdx a,fun z=>Q_g z (by omega),by have:=QcR e a;omega,fun q j=>g q (List.mem_of_mem_eraseIdx j),rfl⟩,(aI tb).trans (ao ((iw (d:=bo false true e) (d':=.lst ((e.map (pI true)).eraseIdx a)) rfl rfl (ae rfl ah) ?_).trans ?_))⟩
    .show(if _ then some (D.lst ((e.map (pI true)).eraseIdx (a:Int).toNat))else none)=_;rw[Q_e ⟨by omega,by rw[b_];omega,by rw[b_];omega⟩,W_]
    .show Out.nx [_,_,_,_,_,_,_,some (D.lst _)]=Out.nx [_,_,_,_,_,_,_,some (D.lst ((e.eraseIdx a).map (pI true)))];rw[wF]
   .rw[Q_c k]at tb;exact⟨_,⟨e,fun _=>L,f,g,rfl⟩,(aJ tb).trans (e_skip _)⟩
  subst m;refine gq (Good:=fun s=>∃e:List P3,e.length<=21/\(∀q∈e,Qk n M q)/\s=sP l (bo false true qs0) n c a u v G e) ?_ fun I ⟨e,f,g,m⟩=>?_
  .have tb:=t 7 e;by_cases k:c%8=7
   .rw[Q_d k]at tb;have L:=L k;have X:∀x y:Option Int,(aT G x y).length<=7:=fun x y=>by have:=Fy G x y;omega
    have c2:(aT G none (some 1)).length=1:=by have:=HT.cA G.length G.length 1;unfold aT;rw[show(some 1:Option Int)=some ((1:Nat):Int)from rfl,this,HT.cx,ı,ň,Zj];omega
    have S:rL (WI true (aT G none (some 1))) (nD n)=some (WI true (t_ n (aT G none (some 1))).flatten):=by show(if _ then some (D.tup _)else none)=some (D.tup _);rw[Q_e ⟨by omega,by omega,by rw[b_];omega,by rw[b_,c2,W_,O_];omega⟩,W_,List.map_flatten,Š]
    obtain⟨d,⟨K,H,F⟩,o⟩:=uQ (k:=c/72%4) (YU _ (by decide)) (P:=fun d=>∃K:List Int,d=WI true K/\K.length<=60) (a:=WI true (aT G (some 1) none)) (b:=WI true (G++[0])) (c:=WI true ([(n:Int)]++aT G (some 1) none)) (d:=WI true (t_ n (aT G none (some 1))).flatten) ⟨_,rfl,by have:=X (some 1) none;omega⟩ ⟨_,rfl,by rw[D_,Yz];omega⟩ ⟨_,rfl,by have:=X (some 1) none;rw[D_,Yz];omega⟩ ⟨_,rfl,by rw[List.length_flatten,Š,c2,List.sum_replicate_nat];omega⟩;rw[H]at o;have sl:∀{x:Option Int},qj (WI true G) x none=_:=fun{x}=>rC G x none;exact⟨_,⟨e.set a ((u,v),K),by rw[YN];exact f,sy g (p (by omega) (by omega) F fun _=>dN E),rfl⟩,(aI tb).trans (ao (jk (d:=bo false true e) (k:=nD a) (v:=pI true ((u,v),K)) rfl (cz (ae (d:=aA (u,v)) rfl (ae (aj (eN (ae (xI (d:=WI true G) rfl (fA rfl) rfl (rC G (some 1) none)) (ae (aj (a:=WI true G) (b:=WI true [0]) rfl rfl (Fs (by omega) (by rw[Yz];omega))) (ae (aj (a:=WI true [(n:Int)]) rfl (xI (d:=WI true G) rfl (fA rfl) rfl (rC G (some 1) none)) (Fs (by simp) (by have:=X (some 1) none;rw[Yz];omega))) (ae (aj (xI (d:=WI true G) rfl rfl (fA rfl) (rC G none (some 1))) rfl S) ah)))) (by simp)) (cy (c:=c) (a:=72) (b:=4) rfl (by decide) (by decide) (by decide)) o) ah)) (by simp)) rfl (kJ L _)))⟩
   .rw[Q_c k]at tb;exact⟨_,⟨e,f,g,rfl⟩,(aJ tb).trans (e_skip _)⟩
  subst m;exact⟨e,⟨⟨by omega,fun q j=>(g q j).pb,fun q j=>(g q j).len⟩,⟨M0,fun q j=>(g q j).dv⟩⟩,aE (a9 rfl)⟩
 obtain⟨e,Q,O⟩:=R;exact⟨e,Q,cU (n:=8) O⟩
end
section
variable{w:Nat}{ps:List (Nat×List Nat)}
theorem L0(t:Int)(b:Nat):(low t b).2∣b:=Nat.div_dvd_of_dvd (ŋ.mp (ZF t b))
theorem VO(hN:0<N)(w:Nat):cq N (lo N w).1.toNat (lo N w).2=w:=by show((w)/((Ŋ w N):Int)).toNat*(N/(N/Ŋ w N))=w;rw[<-QeL,W_,Nat.div_div_self (Nat.gcd_dvd_right w N) (by omega)];exact Qed (Nat.gcd_dvd_left w N)
abbrev o3(N:Nat)(q:Int×List Int):P3:=(((low q.1 N).1,((low q.1 N).2:Int)),q.2)
abbrev zq(q:Nat×List Nat):Int×List Int:=((q.1:Int),upz q.2)
theorem E7:gD N ps=bo false true (ps.map fun q=>o3 N (zq q)):=by show D.lst _=D.lst _;rw[r_];refine Q_h D.lst (X_ fun q _=>?_);show D.tup [_,D.tup _]=D.tup [_,D.tup _];rw[r_];rfl
theorem Fd(L:0<B)(h:B<=720)(hq:q.1.natAbs<1024):(o3 B q).1.1.natAbs<1024/\0<(o3 B q).1.2/\(o3 B q).1.2<1024/\(o3 B q).1.2.toNat∣B:=by have Z:=GQ q.1 B;have Y:=E6 q.1 B;have U:=jm q.1 L;exact⟨by grind,by simp_all,by grind,by exact L0 _ _⟩
theorem EZ:∀{ps:List (Nat×List Nat)}{q:Nat×List Nat},q∈ps->q.1<=(ps.map (·.1)).sum
|p::ps,q,h=>by
  rw[Yx,Ü];rcases s_.mp h with e|e
  .rw[e];omega
  .have:=EZ e;omega
theorem vL(Z:Pz n N ps)(Y:N<=720):∀q∈ps.map (fun q=>o3 N (zq q)),Q0 n N q:=fun q U=>by obtain⟨p,L,rfl⟩:=F_.mp U;have:=EZ L;rw[Z.sum]at this;obtain⟨d,c,b,a⟩:=Fd Z.N0.pos Y (q:=zq p) (by grind);exact⟨d,c,b,by rw[b_,(Z.ok p L).length_eq,Yv],a⟩
theorem xF(N:Nat)(q:Nat×List Nat):toQ (o3 N (zq q))=((lo N q.1).1.toNat,(lo N q.1).2,q.2):=by show(_,_,(upz q.2).map ZS)=_;rw[r_];refine Q_h (fun x=>((lo N q.1).1.toNat,(lo N q.1).2,x)) ?_;exact(X_ fun x _=>W_ x).trans (þ _)
theorem Ea(hN:0<N):ck N ((ps.map fun q=>o3 N (zq q)).map toQ)=ps:=by show Zd _ _=ps;rw[r_,r_];refine(X_ fun q _=>?_).trans (þ _);show(cq N (toQ _).1 (toQ _).2.1,(toQ _).2.2)=q;rw[xF,VO hN]
theorem L4:gD N ps=LQ false true ((ps.map fun q=>o3 N (zq q)).map toQ):=by show D.lst _=D.lst _;rw[r_,r_];refine Q_h D.lst (X_ fun q _=>?_);show D.tup [Qn N q.1,TN q.2]=pQ true _;rw[xF];have:0<=(lo N q.1).1:=Int.ediv_nonneg (by omega) (by omega);show _=D.tup [D.tup [D.int _,_],_];rfl
theorem HZ(Z:Pz n N ps)(Y:N<=720)(b:ps.length<=60):nH [gD N ps,nD n]=.ok (Ta n N (mixN ps)):=by
 rw[L4];refine(An ⟨Z.n1,Z.n7,⟨Z.N0.pos,by omega⟩,fun q L=>?_,fun q L=>?_,by grind⟩).trans (by rw[Ea Z.N0.pos])
 .obtain⟨z,hz,rfl⟩:=F_.mp L;obtain⟨e,d,c,_,a⟩:=vL Z Y z hz;exact⟨by grind,by grind,by grind,a⟩
 .obtain⟨z,hz,rfl⟩:=F_.mp L;obtain⟨p,U,rfl⟩:=F_.mp hz;rw[xF];exact Z.ok p U
end
theorem uY(k:Nat)(q:Int×Int):Cp (k+1) (aA q):=on true (by simp) fun d L=>by simp  at L;rcases L with rfl|rfl <;> exact Fw _ _
theorem Fv(F:Fit qs):Cp 5 (bo t u qs):=on t (by rw[b_];have:=F.few;omega) fun d L=>by
 obtain⟨q,U,rfl⟩:=F_.mp L;exact on true (by simp) fun d L=>by
  simp  at L;rcases L with rfl|rfl
  .exact uY _ _
  .exact D8 _ _ (by have:=F.len q U;omega)
open Classical in
theorem Hf(R:Sq rows n)(hN:Nn N)(U:∀h x,h<n->x<n->A h x<=N)(d:DS n A N)(F:Fit qs)(C:Cmn n M qs)(a:fl r=.ok (bo t u qs))(Z:L r=.ok (WD rows))(Y:ft r=.ok (Ta n N A)):lR i6 "shows" (il "Parted" (ak fl ag) [] jq) (ak L (ak ft ag)) jZ r=.ok (.bl (decide (Apb n qs/\tl (fun h x=>lo M (mixN (ck M (qs.map toQ)) h x)) n=tl (fun h x=>lo N (A h x)) n))):=by have e:=sx (nm := "Parted") (ae a ah) (IR (Fv F));unfold lR;rw[e,bind_ok];show(if i6 "Parted" = true/\([("parts",bo t u qs)]:List (Str×D)).lookup _=none then(ak L _ r).bind fun b=>kL _ else Res.stuck)=_;rw[Q_e ⟨rfl,rfl⟩,ae Z (ae Y ah),bind_ok];show kL (p7 [iD "Parted" [("parts",bo t u qs)],WD rows,Ta n N A])=_;rw[JG R hN U d F C];rfl
abbrev LL(rs:List (List Nat)):D:=.lst (rs.map LN)
abbrev o4:List (List Nat):=[[0,1,2,3],[0,1,3,2],[0,2,1,3],[0,2,3,1],[0,3,1,2],[0,3,2,1],[1,0,2,3],[1,0,3,2],[1,2,0,3],[1,2,3,0],[1,3,0,2],[1,3,2,0],[2,0,1,3],[2,0,3,1],[2,1,0,3],[2,1,3,0],[2,3,0,1],[2,3,1,0],[3,0,1,2],[3,0,2,1],[3,1,0,2],[3,1,2,0],[3,2,0,1],[3,2,1,0]]
abbrev K2:List (List Nat):=[[0,1,2],[0,2,1],[1,0,2],[1,2,0],[2,0,1],[2,1,0]]
theorem f3:uK [nD 3]=.ok (LL K2):=Eq.refl _
theorem f4:uK [nD 4]=.ok (LL o4):=Eq.refl _
theorem VI(c:Nat):∃L:List (List Nat),L.Nodup/\(∀r∈L,r.Perm (d_ (3+c%2)))/\(3+c%2-1)*(3+c%2-1)+2<=L.length/\L.length<=24/\uK [nD (3+c%2)]=.ok (LL L):=by
 have h:c%2=0\/c%2=1:=by omega
 rcases h with h|h
 .rw[h];exact⟨K2,by decide,by decide,by decide,by decide,f3⟩
 .rw[h];exact⟨o4,by decide,by decide,by decide,by decide,f4⟩
theorem Ga(ds:List D)(i:Nat):kz (.lst ds) none (some (i:Int))=some (.lst (ds.take i)):=by show some _=_;unfold aT;rw[HT.cA,HT.cx,ı,ň];simp_all
theorem wL{a b:List D}(h:a.length+b.length<=1000):addE (.lst a) (.lst b)=some (.lst (a++b)):=by show(if a.length+b.length<=sizeLine then some _ else none)=_;rw[Q_e (by rw[O_];omega)]
theorem zw{Z Y U L c:Type}(g:U->L->c)(f1:Z->U)(f2:Y->L):∀(l:List Z)(m:List Y),È g (l.map f1) (m.map f2)=(l.zip m).map fun q=>g (f1 q.1) (f2 q.2)
|[],_=>rfl
|_::_,[]=>rfl
|a::l,b::m=>Q_h _ (zw g f1 f2 l m)
theorem Sw(t:List Int):KB [IN t]=.ok (.bl true):=by
 obtain⟨c,hc⟩:=jp t 30 (by decide);obtain⟨m,nd,pm,l1,l2,Id⟩:=VI c;have n3:3<=3+c%2:=by omega
 have n4:3+c%2<=4:=by omega
 generalize en:3+c%2=n at *;obtain⟨u,w1,w2,hw⟩:=Ao t 2 n n (by decide) (by omega) (by omega);have R:Sq u n:=⟨by omega,by omega,w1,w2⟩
 have O:0<m.length:=by omega
 have hs:c/2%m.length<m.length:=YU _ O;have sq:(n-1)*(n-1)<=9:=ħ (show n-1<=3 by omega) (show n-1<=3 by omega);have hx:c/100%2<2:=YU _ (by decide);generalize es:c/2%m.length=s at hs;generalize ex:c/100%2=x at hx;generalize eb:(n-1)*(n-1)+1=b at *;have IO:b+x<=11:=by omega
 have b1:1<=b:=by omega
 have H:(m.drop s++m.take s).Perm m:=List.perm_append_comm.trans (by rw[Ĕ]);have dn:((m.drop s++m.take s).take (b+x)).Nodup:=(H.nodup_iff.mpr nd).sublist (Qek _ _);have X:∀r∈(m.drop s++m.take s).take (b+x),r.Perm (d_ n):=fun r hr=>pm r (H.mem_iff.mp (ī hr));have dl:((m.drop s++m.take s).take (b+x)).length=b+x:=by rw[Zj,H.length_eq];omega
 have W:D.lst (((m.map LN).drop s++(m.map LN).take s).take (b+x))=LL ((m.drop s++m.take s).take (b+x)):=by show D.lst _=D.lst _;rw[<-Ğ,<-Û,<-M_,<-Û]
 generalize(m.drop s++m.take s).take (b+x)=j at dn X dl W;have J:∀k:Nat,∃d:Nat,k<=60->gH [IN t,nD (31+k)]=.ok (nD d):=by
  intro k;by_cases E:k<=60
  .obtain⟨d,hd⟩:=jp t (31+k) (by omega);exact⟨d,fun _=>hd⟩
  .exact⟨0,fun z=>Q_g z E⟩
 obtain⟨g,hg⟩:=Qbh J;have K:∀y∈(d_ (b+x)).map (fun k=>1+g k%60),1<=y/\y<=60:=fun y hy=>by obtain⟨k,_,rfl⟩:=F_.mp hy;have:=YU (g k) (show 60>0 by omega);omega
 have Y:=xN _ K;have v:((d_ (b+x)).map fun k=>1+g k%60).length=b+x:=by simp
 rw[v]at Y;have ac:∀{r:am},bh r 5=.ok (nD (b+x))->bO 1 [0] r=[none,some (IN t)]->db 1 [0] (cZ cR (ak (gv 5) ag)) (aw 0) (fun _=>Res.ok true) (f2 (ci 1) (f2 (bx (ak (gv 1) (ak (f2 (ci 31) (gv 0) addA) ag)) [] gH) (ci 60) bn) addA) r=.ok (LN ((d_ (b+x)).map fun k=>1+g k%60)):=fun{r} g5 gc=>by
  refine(dh (l:=d_ (b+x)) nD (fun k=>nD (1+g k%60)) (fX (ae g5 ah) (fW (by omega))) (by simp;omega) fun k E=>⟨[some (nD k),some (IN t)],by rw[gc];rfl,?_⟩).trans ?_
  .have E:=n_.mp E;exact aj rfl (aj (aD (ae (d:=IN t) rfl (ae (aj (a:=nD 31) rfl rfl (im _ _)) ah)) (hg k (by omega))) rfl (iu (by decide))) (re _)
  .show Res.ok (D.lst _)=Res.ok (D.lst _);rw[r_];rfl
 generalize(d_ (b+x)).map (fun k=>1+g k%60)=f at K Y v ac;have B:(f.zip j).map (·.1)=f:=List.map_fst_zip (by omega);have M:(f.zip j).map (·.2)=j:=QeJ (by omega);have zl:(f.zip j).length=b+x:=by rw[List.length_zip];omega
 have w:0<f.sum:=by omega
 have W9:f.sum<=720:=by omega
 have Z:Pz n f.sum (f.zip j):=⟨by omega,by omega,⟨w,by omega⟩,by rw[B],fun q o=>X q.2 (by rw[<-M];exact QdS o),by omega⟩
 have pc:∀{r:am},bh r 7=.ok (LN f)->bh r 6=.ok (LL j)->bO 2 [7] r=[none,none,some (LN f)]->db 2 [7] (gY (gv 7) (gv 6)) (cE (ba (aw 0) (ba (aw 1) cD))) (fun _=>Res.ok true) (ie (ak (bx (ak (gv 0) (ak (fC (ak (gv 2) ag) sumD) ag)) [] lC) (ak (fC (ak (gv 1) ag) tupD) ag))) r=.ok (gD f.sum (f.zip j)):=fun{r} g7 g6 gc=>by refine dh (l:=f.zip j) (fun q=>.tup [nD q.1,LN q.2]) (pN f.sum) ((zm g7 g6 rfl rfl).trans (by rw[zw])) (by omega) fun q _=>⟨[some (nD q.1),some (LN q.2),some (LN f)],by rw[gc];rfl,cz (ae (aD (ae (d:=nD q.1) rfl (ae (aS (ae (d:=LN f) rfl ah) (EG f)) ah)) (sg (k:=10) w (by omega) (by decide))) (ae (aS (ae (d:=LN q.2) rfl ah) rfl) ah)) (by simp)⟩
 have U:=HZ Z W9 (by omega);have L:=vL Z W9;have F:Fit ((f.zip j).map fun q=>o3 f.sum (zq q)):=⟨by rw[b_];omega,fun q o=>by obtain⟨a1,a2,a3,_,_⟩:=L q o;exact⟨by omega,by omega⟩,fun q o=>by have:=(L q o).len;omega⟩
 have C:Cmn n f.sum ((f.zip j).map fun q=>o3 f.sum (zq q)):=⟨⟨w,by omega⟩,fun q o _=>(L q o).dv⟩
 have P:∀h x,h<n->x<n->mixN (f.zip j) h x<=f.sum:=fun h x _ _=>by have:=o9 (f.zip j) h x;rwa[B]at this
 have BT:DS n (mixN (f.zip j)) f.sum:=by have:=oQ Z.ok;rwa[B]at this
 have AP:(Apb n ((f.zip j).map fun q=>o3 f.sum (zq q))/\tl (fun h x=>lo f.sum (mixN (ck f.sum (((f.zip j).map fun q=>o3 f.sum (zq q)).map toQ)) h x)) n=tl (fun h x=>lo f.sum (mixN (f.zip j) h x)) n)↔b+x=b:=by
  rw[Ea w];constructor
  .rintro⟨h,-⟩
   have:=h.le;rw[b_]at this;omega
  .intro hx0;refine⟨⟨?_,by rw[b_];omega,fun q o=>?_,?_⟩,rfl⟩
   .intro e;have:=Q_h Z5 e;rw[b_,į]at this;omega
   .obtain⟨p,hp,rfl⟩:=F_.mp o;refine⟨(L _ o).b0,E5 ⟨w,by omega⟩ ?_,⟨p.2,rfl,Z.ok p hp⟩⟩;exact(K p.1 (by rw[<-B];exact QdS hp)).1
   .rw[r_];show((f.zip j).map fun q=>upz q.2).Nodup;have e2:((f.zip j).map fun q=>upz q.2)=j.map upz:=Eq.trans (by rw[r_];rfl) (Q_h (Zd upz) M);rw[e2];have I:∀a b:List Nat,upz a=upz b->a=b:=fun a b h=>by have:=Q_h (Zd ZS) h;rw[r_,r_]at this;have i:∀l:List Nat,l.map (ZS∘fun k:Nat=>(k:Int))=l:=fun l=>(X_ fun k _=>W_ k).trans (þ _);rwa[i,i]at this
    rw[Qcd,ĭ];exact QeA (fun{a b} h e=>h (I a b e)) dn
 have G:∀{T Q S:FE}{r:am},T r=.ok (bo true true ((f.zip j).map fun q=>o3 f.sum (zq q)))->Q r=.ok (WD u)->S r=.ok (Ta n f.sum (mixN (f.zip j)))->lR i6 "shows" (il "Parted" (ak T ag) [] jq) (ak Q (ak S ag)) jZ r=.ok (.bl (decide (b+x=b))):=fun h1 h2 h3=>(Hf R ⟨w,by omega⟩ P BT F C h1 h2 h3).trans (by rw[Q_l.mpr AP]);have N:tupD [gD f.sum (f.zip j)]=some (bo true true ((f.zip j).map fun q=>o3 f.sum (zq q))):=by rw[E7];exact e_tupL _
 clear F C AP BT P L;generalize((f.zip j).map fun q=>o3 f.sum (zq q))=qs at G N;generalize mixN (f.zip j)=A at G U;refine dz (n:=10) ?_
 dsimp only[Kz,Bu]
 refine(ao (aM (aD (ae rfl (ae rfl ah)) hc))).trans ?_;refine(ao (aM (d:=nD n) (aj (b:=nD (c%2)) rfl (nb (c:=c) (b:=2) rfl (by decide)) (by rw[<-en];exact im 3 _)))).trans ?_;refine(ao (aM (aD (ae (d:=nD n) rfl ah) Id))).trans ?_;refine(ao (aM (d:=nD s) (aj (jT (c:=c) (b:=2) rfl (by decide) (by decide)) (aS (ae (d:=LL m) rfl ah) (d:=nD m.length) (by show some (D.int _)=_;rw[b_])) (by rw[<-es];exact iu O)))).trans ?_;have bd:∀{r:am},bh r 2=.ok (nD n)->f2 (f2 (f2 (gv 2) (ci 1) eS) (f2 (gv 2) (ci 1) eS) bK) (ci 1) addA r=.ok (nD b):=fun{r} h=>by rw[<-eb];exact DN (by omega) (by omega) h
 refine(ao (aM (d:=nD (b+x)) (aj (bd rfl) (cy (c:=c) (a:=100) (b:=2) rfl (by decide) (by decide) (by decide)) (by rw[ex];exact im _ _)))).trans ?_;refine(ao (aM (d:=LL j) (fV (aj (fV (d:=LL m) rfl (fA (i:=(s:Int)) rfl) rfl (Ih (by rw[b_];omega))) (fV (d:=LL m) rfl rfl (fA (i:=(s:Int)) rfl) (Ga _ _)) (wL (by rw[Ö,Zj,b_];omega))) rfl (fA (i:=((b+x:Nat):Int)) rfl) ((Ga _ _).trans (by rw[W]))))).trans ?_;refine(ao (aM (ac rfl rfl))).trans ?_;refine(ao (aM (pc rfl rfl rfl))).trans ?_;refine(ao (aM (G (aS (ae (d:=gD f.sum (f.zip j)) rfl ah) N) (aD (ae (d:=IN t) rfl (ae (d:=nD 2) rfl (ae (d:=nD n) rfl (ae (d:=nD n) rfl ah)))) hw) (aD (ae (d:=gD f.sum (f.zip j)) rfl (ae (d:=nD n) rfl ah)) U)))).trans ?_;have Cl:∀q:Bool,eqD (.bl q) (.bl q)=some (.bl true):=fun q=>by cases q <;> rfl
 refine aE (a9 ((fB (fU (a:=.bl (decide (b+x=b))) rfl rfl)).trans (aj (a:=.bl (decide (b+x=b))) (b:=.bl (decide (b+x=b))) rfl (aj (a:=nD (b+x)) rfl (bd rfl) (jR _ _)) (Cl _))))
section
variable{B:Nat}{t:Int}{O T K:List Int}{tb:D}
theorem kb(G:List Int)(x y:Option Int):kz (WI false G) x y=some (WI false (aT G x y)):=by show some _=some (D.lst _);rw[Gu]
theorem Fp(h:G.length+K.length<=900):addE (WI false G) (WI false K)=some (WI false (G++K)):=(wL (by grind)).trans (by show _=some (D.lst _);rw[M_])
theorem LI(h:G.length+K.length<=900):addA (WI false G) (WI false K)=some (WI false (G++K)):=Fp h
theorem qH(b:0<B)(Y:B<=300)(a:q.1.1.natAbs<4096)(Z:q.1.2.natAbs<4096)(U:q.2.length<=60)(L:q.1.2.toNat∣2*B):Qk n (2*B) q:=⟨by grind,U,fun _=>L⟩
theorem qx(L:0<B)(Y:B<=300)(hz:z.natAbs<1024)(U:G.length<=60):Qk n (2*B) (o3 B (z,G)):=by obtain⟨c,b,a,Z⟩:=Fd L (by omega) (q:=(z,G)) hz;exact qH L Y (by omega) (by omega) U (Nat.dvd_mul_left_of_dvd Z _)
theorem Dx(Y:0<B)(U:B<=300)(L:G.length<=60):Qk n (2*B) ((1,2),G):=qH Y U (by simp_all) (by simp_all) L (QeC 2 B)
abbrev sF(ns:List Int)(c n:Nat)(O T:List Int)(tb:D)(t:Int)(B:Nat)(l:am):am:=some (IN ns)::some (nD c)::some (nD n)::some (WI false O)::some (WI false T)::some tb::some (.int t)::some (nD B)::l
theorem Tn(p:List Int):KN [IN p]=.ok (.bl true):=by
 obtain⟨c,hc⟩:=jp p 43 (by decide);obtain⟨c9,ac⟩:=jp p 29 (by decide);have n4:4<=4+c%3:=by omega
 have n6:4+c%3<=6:=by omega
 generalize en:4+c%3=n at *;obtain⟨H,w1,w2,hw⟩:=Ao p 2 n n (by decide) (by omega) (by omega);have R:Sq H n:=⟨by omega,by omega,w1,w2⟩
 obtain⟨o,op,ho⟩:=pd c9 n (by omega);have ol:o.length=n:=by rw[op.length_eq,Yv]
 obtain⟨a,b,e,f,l,rfl⟩:∃a b e f l,o=a::b::e::f::l:=by match o,ol with
 |[],h=>exact Q_g h (by simp;omega)
 |[_],h=>exact Q_g h (by simp;omega)
 |[_,_],h=>exact Q_g h (by simp;omega)
 |[_,_,_],h=>exact Q_g h (by simp;omega)
 |a::b::e::f::l,_=>exact⟨a,b,e,f,l,rfl⟩
 have tp:(b::a::f::e::l).Perm (d_ n):=((List.Perm.swap a b _).trans (((List.Perm.swap e f l).cons b).cons a)).trans op;have P:Pq n 2 [(1,2,a::b::e::f::l),(1,2,b::a::f::e::l)]:=by
  refine⟨by omega,by omega,⟨by decide,by decide⟩,fun q g=>?_,fun q g=>?_,by simp⟩
  .simp only[s_,L_,Q_m]at g;rcases g with rfl|rfl <;> exact(⟨by decide,by decide,by decide,by decide⟩:Bq 2 1 2)
  .simp only[s_,L_,Q_m]at g;rcases g with rfl|rfl
   .exact op
   .exact tp
 have Y:=An (t:=false) (u:=false) P;have s2:((ck 2 [(1,2,a::b::e::f::l),(1,2,b::a::f::e::l)]).map (·.1)).sum=2:=by show 1*(2/2)+(1*(2/2)+0)=2;decide
 have L:=oQ (n:=n) (ps:=ck 2 [(1,2,a::b::e::f::l),(1,2,b::a::f::e::l)]) fun q g=>by obtain⟨z,S,rfl⟩:=F_.mp g;exact P.ok z S
 have hA:=fun h x (_:h<n) (_:x<n)=>o9 (ck 2 [(1,2,a::b::e::f::l),(1,2,b::a::f::e::l)]) h x;rw[s2]at L hA;generalize mixN (ck 2 [(1,2,a::b::e::f::l),(1,2,b::a::f::e::l)])=A at Y L hA;refine dz (n:=10) ?_
 suffices h:∃d:Unit,True/\CM (bP 10 [IN p])=.rt (.bl true)from h.elim fun _ z=>z.2
 dsimp only[CM,B5]
 refine dH (ao (aM (aD (ae rfl (ae rfl ah)) hc))) ?_;refine dH (ao (aM (d:=nD n) (aj (b:=nD (c%3)) rfl (nb (c:=c) (b:=3) rfl (by decide)) (by rw[<-en];exact im 4 _)))) ?_;refine dH (ao (aM (d:=LN (a::b::e::f::l)) (aS (ae (aD (ae (aD (ae rfl (ae rfl ah)) ac) (ae (d:=nD n) rfl ah)) ho) ah) rfl))) ?_;refine dH (ao (aM (d:=LN (b::a::f::e::l)) (aj (eN (ae (d:=nD b) (aj (a:=LN (a::b::e::f::l)) rfl rfl (dX (i:=1) rfl)) (ae (d:=nD a) (aj (a:=LN (a::b::e::f::l)) rfl rfl (dX (i:=0) rfl)) (ae (d:=nD f) (aj (a:=LN (a::b::e::f::l)) rfl rfl (dX (i:=3) rfl)) (ae (d:=nD e) (aj (a:=LN (a::b::e::f::l)) rfl rfl (dX (i:=2) rfl)) ah)))) (by simp)) (fV (d:=LN (a::b::e::f::l)) rfl (fA rfl) rfl (Hg (i:=4) (by simp))) ?_))) ?_
 .exact(wL (a:=[nD b,nD a,nD f,nD e]) (b:=l.map nD) (by rw[b_];simp at ol ⊢;omega))
 refine dH (ao (aM (aD (ae (d:=LQ false false [(1,2,a::b::e::f::l),(1,2,b::a::f::e::l)]) (eN (ae (cz (ae (d:=.tup [.int 1,.int 2]) rfl (ae rfl ah)) (by simp)) (ae (cz (ae (d:=.tup [.int 1,.int 2]) rfl (ae rfl ah)) (by simp)) ah)) (by simp)) (ae (d:=nD n) rfl ah)) Y))) ?_;have g2:∀{r:am},bh r 1=.ok (nD c)->f2 (f2 (f2 (gv 1) (ci 9) fH) (ci 5) bn) (ci 2) eS r=.ok (.int (((c/9%5:Nat):Int)-2)):=fun{r} h=>aj (cy h (by decide) (by decide) (by decide)) rfl rfl;refine dH (ao (aM (g2 rfl))) ?_;have ht:(((c/9%5:Nat):Int)-2).natAbs<=2:=by omega
 generalize((c/9%5:Nat):Int)-2=t at ht;have g3:∀{r:am},bh r 1=.ok (nD c)->f2 (ci 6) (f2 (ci 2) (f2 (f2 (gv 1) (ci 45) fH) (ci 50) bn) bK) addA r=.ok (nD (6+2*(c/45%50))):=fun{r} h=>aj (a:=nD 6) rfl (aj (a:=nD 2) (b:=nD (c/45%50)) (d:=nD (2*(c/45%50))) rfl (cy h (by decide) (by decide) (by decide)) (by rw[jn (.inl ⟨by decide,by decide⟩),nD,ZI])) (im _ _);refine dH (ao (aM (g3 rfl))) ?_;have Cl:6<=6+2*(c/45%50):=by omega
 have BT:6+2*(c/45%50)<=104:=by omega
 generalize 6+2*(c/45%50)=B at Cl BT;refine dH (Q_h (al _ _) (a₂:=sF p c n (upz (a::b::e::f::l)) (upz (b::a::f::e::l)) (Ta n 2 A) t B [none,none]) ?_) ?_
 .show[_,_,_,some (LN (a::b::e::f::l)),some (LN (b::a::f::e::l)),_,_,_,_,_]=_;rw[rD,rD]
 have w:(upz (a::b::e::f::l)).length=n:=by rw[b_];exact ol
 have E:(upz (b::a::f::e::l)).length=n:=by rw[b_,tp.length_eq,Yv]
 generalize upz (a::b::e::f::l)=O at w;generalize upz (b::a::f::e::l)=T at E;have m:∀{G:List Int}(x y:Option Int),G.length=n->(aT G x y).length<=7:=fun{G} x y h=>by have:=Fy G x y;omega
 have U:∀{G K:List Int}{fa fb:FE}{r:am},fa r=.ok (WI false G)->fb r=.ok (WI false K)->G.length<=7->K.length<=7->fC (ak (f2 fa fb addE) ag) tupD r=.ok (WI true (G++K)):=fun I v h3 h4=>aS (ae (aj I v (Fp (by omega))) ah) (e_tupL _);have Q:∀{fz:FE}{r:am}{z:Int},fz r=.ok (.int z)->bh r 7=.ok (nD B)->bx (ak fz (ak (gv 7) ag)) [] lC r=.ok (aA ((low z B).1,((low z B).2:Int))):=fun I v=>aD (ae I (ae v ah)) (sg (k:=10) (by omega) (by omega) (by decide));have v:∀{r:am},bh r 7=.ok (nD B)->bh r 6=.ok (.int t)->f2 (f2 (gv 7) (ci 2) fH) (gv 6) addA r=.ok (.int (((B/2:Nat):Int)+t)):=fun I v=>aj (jT (c:=B) (b:=2) I (by decide) (by decide)) v rfl;have q1:=fun{G:List Int}(h:G.length<=60)=>qx (n:=n) (B:=B) (by omega) (by omega) (z:=((B/2:Nat):Int)+t) (by omega) h;have q2:=fun{G:List Int}(h:G.length<=60)=>qx (n:=n) (B:=B) (by omega) (by omega) (z:=0-t) (by omega) h;have N:=fun{G:List Int}(h:G.length<=60)=>Dx (n:=n) (B:=B) (by omega) (by omega) h;refine dH (ao (aM (d:=bo false true [o3 B (((B/2:Nat):Int)+t,O),o3 B (((B/2:Nat):Int)+t,T)]) (eN (ae (cz (ae (Q (v rfl rfl) rfl) (ae (aS (ae (d:=WI false O) rfl ah) (e_tupL _)) ah)) (by simp)) (ae (cz (ae (Q (v rfl rfl) rfl) (ae (aS (ae (d:=WI false T) rfl ah) (e_tupL _)) ah)) (by simp)) ah)) (by simp)))) ?_;refine dH (ao (iw (d:=bo false true [o3 B (((B/2:Nat):Int)+t,O),o3 B (((B/2:Nat):Int)+t,T)]) rfl rfl (ae (cz (ae (Q (aj rfl rfl rfl) rfl) (ae (U (fV (d:=WI false O) rfl rfl (fA rfl) (kb _ _ _)) (fV (d:=WI false T) rfl (fA rfl) rfl (kb _ _ _)) (m _ _ w) (m _ _ E)) ah)) (by simp)) ah) (kl (by simp)))) ?_;refine dH (ao (iw (d:=bo false true [o3 B (((B/2:Nat):Int)+t,O),o3 B (((B/2:Nat):Int)+t,T),o3 B (0-t,aT O none (some 2)++aT T (some 2) none)]) rfl rfl (ae (cz (ae (Q (aj rfl rfl rfl) rfl) (ae (U (fV (d:=WI false T) rfl rfl (fA rfl) (kb _ _ _)) (fV (d:=WI false O) rfl (fA rfl) rfl (kb _ _ _)) (m _ _ E) (m _ _ w)) ah)) (by simp)) ah) (kl (by simp)))) ?_;have W:∀{G K:List Int}(x y x' X:Option Int),G.length=n->K.length=n->(aT G x y++aT K x' X).length<=60:=fun x y x' X hg hk=>by have:=m x y hg;have:=m x' X hk;rw[D_];omega
 have tt:∀(k:Nat)(x8 x9:Option D),bj (f2 (f2 (f2 (gv 1) (ci 3) fH) (ci 3) bn) (fun _=>Res.ok (D.int (k:Int))) eqD) (sF p c n O T (Ta n 2 A) t B [x8,x9])=.ok (decide (c/3%3=k)):=fun k x8 x9=>iK (cy (c:=c) (a:=3) (b:=3) rfl (by decide) (by decide) (by decide));refine gq (Good:=fun s=>∃j:List P3,j.length<=4/\(∀q∈j,Qk n (2*B) q)/\s=sF p c n O T (Ta n 2 A) t B [some (bo false true j),none]) ?_ fun s' ⟨j,ql,M,es⟩=>?_
 .have tb:=tt 1 (some (bo false true [o3 B (((B/2:Nat):Int)+t,O),o3 B (((B/2:Nat):Int)+t,T),o3 B (0-t,aT O none (some 2)++aT T (some 2) none),o3 B (0-t,aT T none (some 2)++aT O (some 2) none)])) none;by_cases k:c/3%3=1
  .rw[Q_d k]at tb;refine⟨_,⟨[((1,2),aT T none (some 1)++aT O (some 1) none),((1,2),aT O none (some 1)++aT T (some 1) none)],by simp,?_,rfl⟩,(aI tb).trans (ao (aM (eN (ae (cz (ae (d:=.tup [.int 1,.int 2]) rfl (ae (U (fV (d:=WI false T) rfl rfl (fA rfl) (kb _ _ _)) (fV (d:=WI false O) rfl (fA rfl) rfl (kb _ _ _)) (m _ _ E) (m _ _ w)) ah)) (by simp)) (ae (cz (ae (d:=.tup [.int 1,.int 2]) rfl (ae (U (fV (d:=WI false O) rfl rfl (fA rfl) (kb _ _ _)) (fV (d:=WI false T) rfl (fA rfl) rfl (kb _ _ _)) (m _ _ w) (m _ _ E)) ah)) (by simp)) ah)) (by simp))))⟩;intro q g;simp only[s_,L_,Q_m]at g;rcases g with rfl|rfl
   .exact N (W _ _ _ _ E w)
   .exact N (W _ _ _ _ w E)
  .rw[Q_c k]at tb;refine⟨_,⟨[o3 B (((B/2:Nat):Int)+t,O),o3 B (((B/2:Nat):Int)+t,T),o3 B (0-t,aT O none (some 2)++aT T (some 2) none),o3 B (0-t,aT T none (some 2)++aT O (some 2) none)],by simp,?_,rfl⟩,(aJ tb).trans (e_skip _)⟩;intro q g;simp only[s_,L_,Q_m]at g;rcases g with rfl|rfl|rfl|rfl
   .exact q1 (by omega)
   .exact q1 (by omega)
   .exact q2 (W _ _ _ _ w E)
   .exact q2 (W _ _ _ _ E w)
 subst es;refine gq (Good:=fun s=>∃j:List P3,j.length<=4/\(∀q∈j,Qk n (2*B) q)/\s=sF p c n O T (Ta n 2 A) t B [some (bo false true j),none]) ?_ fun s' ⟨j,ql,M,es⟩=>?_
 .have tb:=tt 2 (some (bo false true j)) none;by_cases k:c/3%3=2
  .rw[Q_d k]at tb;have O0:O.length≠0:=by omega
   obtain⟨o,O',eO⟩:=List.exists_cons_of_ne_nil (show O≠[]by rintro rfl;exact O0 rfl);have x0:aF (WI false O) (.int 0)=some (.int o):=by rw[eO];exact ixA_L0 _ _
   have S:∀{r:am},bh r 1=.ok (nD c)->bh r 2=.ok (nD n)->bh r 3=.ok (WI false O)->jE (ak (f2 (f2 (gv 3) (ci 0) aF) (f2 (gv 2) (f2 (f2 (gv 1) (ci 9) fH) (ci 2) bn) bK) eS) ag) r=.ok (WI false [o-(n:Int)*((c/9%2:Nat):Int)]):=fun a1 a2 a3=>eN (ae (aj (aj a3 rfl x0) (aj a2 (cy (c:=c) (a:=9) (b:=2) a1 (by decide) (by decide) (by decide)) (jn (.inr ⟨by omega,by omega⟩))) rfl) ah) (by simp);generalize o-(n:Int)*((c/9%2:Nat):Int)=z at S;have c7:=m (some 1) none w;refine⟨_,⟨[((1,2),[z]++aT O (some 1) none),((1,2),T)],by simp,?_,rfl⟩,(aI tb).trans (ao (aM (eN (ae (cz (ae (d:=.tup [.int 1,.int 2]) rfl (ae (aS (ae (aj (S rfl rfl rfl) (fV (d:=WI false O) rfl (fA rfl) rfl (kb _ _ _)) (LI (by rw[Yz];omega))) ah) (e_tupL _)) ah)) (by simp)) (ae (cz (ae (d:=.tup [.int 1,.int 2]) rfl (ae (aS (ae (d:=WI false T) rfl ah) (e_tupL _)) ah)) (by simp)) ah)) (by simp))))⟩;intro q g;simp only[s_,L_,Q_m]at g;rcases g with rfl|rfl
   .exact N (by rw[D_,Yz];omega)
   .exact N (by omega)
  .rw[Q_c k]at tb;exact⟨_,⟨j,ql,M,rfl⟩,(aJ tb).trans (e_skip _)⟩
 subst es;have F:Fit j:=⟨by omega,fun q g=>(M q g).pb,fun q g=>(M q g).len⟩
 have C:Cmn n (2*B) j:=⟨⟨by omega,by omega⟩,fun q g=>(M q g).dv⟩
 have N2:Nn 2:=⟨by decide,by decide⟩
 obtain⟨J,lp,sp⟩:∃J:Bool,pZ [Ta n 2 A,bo false true j]=.ok (.bl J)/\∀{fl fw ft:FE}{r:am},fl r=.ok (bo false true j)->fw r=.ok (WD H)->ft r=.ok (Ta n 2 A)->lR i6 "shows" (il "Parted" (ak fl ag) [] jq) (ak fw (ak ft ag)) jZ r=.ok (.bl J):=⟨_,JE (n:=n) (by omega) (by omega) N2 L F C,fun I v h3=>Hf R N2 hA L F C I v h3⟩
 have Z:∀q:Bool,eqD (.bl q) (.bl q)=some (.bl true):=fun q=>by cases q <;> rfl
 refine dH (ao (aM (sp rfl (aD (ae (d:=IN p) rfl (ae (d:=nD 2) rfl (ae (d:=nD n) rfl (ae (d:=nD n) rfl ah)))) hw) rfl))) ?_;exact⟨(),trivial,aE (a9 ((fB (fU (a:=.bl J) rfl rfl)).trans (aj (a:=.bl J) (b:=.bl J) rfl (aD (ae (d:=Ta n 2 A) rfl (ae (d:=bo false true j) rfl ah)) lp) (Z _))))⟩
end
theorem VN(h:rg.length<=60):Cp 5 (bG t rg):=on t (by grind) fun d L=>by obtain⟨q,_,rfl⟩:=F_.mp L;exact uY _ _
theorem Vu(f:List Int):uW [IN f]=.ok (.bl true):=by
 obtain⟨c,hc⟩:=jp f 1 (by decide);have O:1<=1+c%6:=by omega
 have h6:1+c%6<=6:=by omega
 generalize en:1+c%6=n at *;obtain⟨e,X,W,hw⟩:=Ao f 2 n n (by decide) (by omega) (by omega);have R:Sq e n:=⟨by omega,by omega,X,W⟩
 obtain⟨N,ps,H,pl,Z,hp⟩:=Sj f 8 n (1+c/6%9) (by decide) O (by omega) (by omega) (by omega);have Y:=HZ Z H (by omega);have hN:=Z.N0;have s:∀h x,h<n->x<n->mixN ps h x<=N:=fun h x _ _=>by have:=o9 ps h x;rwa[Z.sum]at this
 have U:DS n (mixN ps) N:=by have:=oQ Z.ok;rwa[Z.sum]at this
 generalize mixN ps=A at Y s U;have T:Tok (fun h x=>lo N (A h x)) n:=fun h hh x hx=>Bd.low hN.pos (by omega) (by rw[Z_];have:=s h x hh hx;omega);obtain⟨k,K,Cl⟩:=TY (N:=N) (A:=A) f R;obtain⟨⟨g,a,b⟩,⟨I,S⟩,L⟩:=Qq (N:=N) (A:=A) f R hN H s;have L:KG [IN f,WD e,Ta n N A]=.ok (.tup [bG false g,aA (a,b)]):=cU (n:=11) L;obtain⟨M,j,⟨F,C⟩,Q⟩:=Sk (N:=N) f (qs0:=ps.map fun q=>o3 N (zq q)) (by rw[b_];omega) (by rw[b_];omega) O (by omega) (vL Z H) hN.pos H;rw[<-E7]at Q;obtain⟨p,k1,s1⟩:∃v:Bool,Co [WD e,Ta n N A,WI false k]=.ok (.bl v)/\∀t,p9 [iD "Rising" [("heights",WI t k)],WD e,Ta n N A]=.ok (.bl v):=⟨_,Ua R K,fun t=>To R T hN s U K⟩
 obtain⟨o,k2,s2⟩:∃v:Bool,Cc [WD e,Ta n N A,bG false g,aA (a,b)]=.ok (.bl v)/\∀t,uD [iD "Handing" [("ring",bG t g),("part",aA (a,b))],WD e,Ta n N A]=.ok (.bl v):=⟨_,Qm R hN s I S,fun t=>Ql R T hN s U I S⟩
 obtain⟨w,k3,s3⟩:∃v:Bool,pZ [Ta n N A,bo false true j]=.ok (.bl v)/\∀t u,p7 [iD "Parted" [("parts",bo t u j)],WD e,Ta n N A]=.ok (.bl v):=⟨_,JE (n:=n) (by omega) (by omega) hN U F C,fun t u=>JG R hN s U F C⟩
 have IO:g.length<=60:=I;have qf:=F.few;have m:=fun t u=>VL (ps:=[(("Rising",[("heights",WI t k)]),p),(("Handing",[("ring",bG t g),("part",aA (a,b))]),o),(("Parted",[("parts",bo t u j)]),w)]) fun q J=>by
  simp only[s_,L_,Q_m]at J;rcases J with rfl|rfl|rfl
  .exact⟨rfl,rfl,rfl,s1 t⟩
  .exact⟨rfl,rfl,rfl,s2 t⟩
  .exact⟨rfl,rfl,rfl,s3 t u⟩
 have G:∀{t u:Bool}{E B z y:FE}{r:am},E r=.ok (WI t k)->B r=.ok (bG t g)->z r=.ok (aA (a,b))->y r=.ok (bo t u j)->jE (ak (il "Rising" (ak E ag) [] nJ) (ak (il "Handing" (ak B (ak z ag)) [] nR) (ak (il "Parted" (ak y ag) [] jq) ag))) r=.ok (pS [(("Rising",[("heights",WI t k)]),p),(("Handing",[("ring",bG t g),("part",aA (a,b))]),o),(("Parted",[("parts",bo t u j)]),w)]):=fun e1 e2 e3 e4=>eN (ae (sx (ae e1 ah) (RY (D8 4 _ (by omega)))) (ae (sx (ae e2 (ae e3 ah)) (Td (VN IO) (uY _ _))) (ae (sx (ae e4 ah) (IR (Fv F))) ah))) (by simp);obtain⟨P,G,is,m⟩:∃P:Bool->Bool->D,(∀{t u:Bool}{E B z y:FE}{r:am},E r=.ok (WI t k)->B r=.ok (bG t g)->z r=.ok (aA (a,b))->y r=.ok (bo t u j)->jE (ak (il "Rising" (ak E ag) [] nJ) (ak (il "Handing" (ak B (ak z ag)) [] nR) (ak (il "Parted" (ak y ag) [] jq) ag))) r=.ok (P t u))/\(∃d,aF (P true true) (.int 1)=some d/\qZ o6 d=some (.bl true))/\∀t u,Bb [P t u,WD e,Ta n N A,.lst [.bl p,.bl o,.bl w]]=.ok (.bl true):=⟨fun t u=>pS [(("Rising",[("heights",WI t k)]),p),(("Handing",[("ring",bG t g),("part",aA (a,b))]),o),(("Parted",[("parts",bo t u j)]),w)],G,⟨iD "Handing" [("ring",bG true g),("part",aA (a,b))],dX (i:=1) rfl,rfl⟩,m⟩
 obtain⟨d1,KK,Id⟩:=is;refine dz (n:=12) ?_
 dsimp only[Ef,uV]
 refine(ao (aM (aD (ae rfl (ae rfl ah)) hc))).trans ?_;refine(ao (aM (d:=nD n) (aj (b:=nD (c%6)) rfl (nb (c:=c) (b:=6) rfl (by decide)) (by rw[<-en];exact im 1 _)))).trans ?_;refine(ao (aM (aD (ae (d:=IN f) rfl (ae (d:=nD 2) rfl (ae (d:=nD n) rfl (ae (d:=nD n) rfl ah)))) hw))).trans ?_;refine(ao (aM (aD (ae (d:=IN f) rfl (ae (d:=nD 8) rfl (ae (d:=nD n) rfl (ae (d:=nD (1+c/6%9)) (aj rfl (cy (c:=c) (a:=6) (b:=9) rfl (by decide) (by decide) (by decide)) (re _)) ah)))) hp))).trans ?_;refine(ao (aM (aD (ae (d:=gD N ps) rfl (ae (d:=nD n) rfl ah)) Y))).trans ?_;refine(ao (aM (aD (ae (d:=IN f) rfl (ae (d:=WD e) rfl (ae (d:=Ta n N A) rfl ah))) Cl))).trans ?_;refine(ao (rP (aD (ae (d:=IN f) rfl (ae (d:=WD e) rfl (ae (d:=Ta n N A) rfl ah))) L) rfl)).trans ?_;refine(ao (aM (aD (ae (d:=IN f) rfl (ae (d:=gD N ps) rfl (ae (d:=nD n) rfl ah))) Q))).trans ?_;refine Eq.trans (Q_h (al _ _) (a₂:=[some (IN f),some (nD c),some (nD n),some (WD e),some (gD N ps),some (Ta n N A),some (WI false k),some (bG false g),some (aA (a,b)),some (bo false true j),none,none]) rfl) ?_;refine(ao (aM (d:=.lst [.bl p,.bl o]) (eN (ae (aD (ae (d:=WD e) rfl (ae (d:=Ta n N A) rfl (ae (d:=WI false k) rfl ah))) k1) (ae (aD (ae (d:=WD e) rfl (ae (d:=Ta n N A) rfl (ae (d:=bG false g) rfl (ae (d:=aA (a,b)) rfl ah)))) k2) ah)) (by simp)))).trans ?_;refine(ao (iw (d:=.lst [.bl p,.bl o]) rfl rfl (ae (aD (ae (d:=Ta n N A) rfl (ae (d:=bo false true j) rfl ah)) k3) ah) (kl (by simp)))).trans ?_;refine(ao (aM (G (t:=true) (u:=true) (aS (ae (d:=WI false k) rfl ah) (e_tupL _)) (aS (ae (d:=bG false g) rfl ah) (e_tupL _)) rfl (aS (ae (d:=bo false true j) rfl ah) (e_tupL _))))).trans ?_;refine(ao ((aJ ?_).trans (e_skip _))).trans ?_
 .refine(aQ (cp (b:=true) (bU (d:=.bl true) (fU (aj (a:=P true true) rfl rfl KK) Id) rfl))).trans ?_;exact cp (b:=true) (bU (d:=.bl true) (aD (ae (d:=P true true) rfl (ae (d:=WD e) rfl (ae (d:=Ta n N A) rfl (ae (d:=.lst [.bl p,.bl o,.bl w]) rfl ah)))) (m true true)) rfl)
 have cm:∀{r:am},bh r 9=.ok (bo false true j)->db 2 [] (aV bQ (gv 9)) (cE (ba (aw 0) (ba (aw 1) cD))) (fun _=>Res.ok true) (ie (ak (gv 0) (ak (fC (ak (gv 1) ag) q9) ag))) r=.ok (bo false false j):=fun{r} h=>dh (l:=j) (pI true) (pI false) (eQ h rfl) (by omega) fun q _=>⟨[some (aA q.1),some (WI true q.2)],rfl,cz (ae (d:=aA q.1) rfl (ae (aS (ae (d:=WI true q.2) rfl ah) rfl) ah)) (by simp)⟩
 refine(ao (aM (G (t:=false) (u:=false) rfl rfl rfl (cm rfl)))).trans ?_;refine(ao ((aJ (cp (b:=true) (bU (d:=.bl true) (aD (ae (d:=P false false) rfl (ae (d:=WD e) rfl (ae (d:=Ta n N A) rfl (ae (d:=.lst [.bl p,.bl o,.bl w]) rfl ah)))) (m false false)) rfl))).trans (e_skip _))).trans ?_;exact aE (a9 ((fB (aD (ae (d:=IN f) rfl ah) (Sw f))).trans (aD (ae (d:=IN f) rfl ah) (Tn f))))
theorem main(L:List Int)(_:L.length<=63):uW [.lst (L.map .int)]=.ok (.bl true):=Vu L
end Law
open PySem PySem.W PyProof.Rows
namespace Law
open PySem PySem.Spec PyProof.Rows L2 DL
theorem VB{K:W.Frag}(g:K.In h)(G:h.Ns Y9 e){Xq Xi:Option Addr}{W3:Array (Option Value)}{m:Addr}{WY W6 WO Xa y W2:Value}{W5 WX:Option Addr}{WT:Array (Option Value)}{l:Addr}{Xk Xf W4 Xp w Xn:Value}{Xh Xr:Option Addr}{W7:Array (Option Value)}{n:Addr}{Wy Wt Wb Ww A WE:Value}{Wq WC:Option Addr}{Wl:Array (Option Value)}{i:Addr}{Wk Wh V7 Wg B We:Value}{Wj Wa:Option Addr}{V6:Array (Option Value)}{o:Addr}{Wu Wm Wf Wx C Wz:Value}{Ws WA:Option Addr}{Wc:Array (Option Value)}(XJ:W.nsIn K Y9 "Rising" = some (some (.ref U)))(v:W.nsIn K Y9 "Handing" = some (some (.ref L)))(X2:W.nsIn K Y9 "Parted" = some (some (.ref Y)))(I:W.nsIn K Y9 "Paper" = some (some (.ref Z)))(XH:DL.gN K U (YT "Rising")=true)(XT:DL.ju K "Rising" U=true)(X7:W.plainGet K U Đ=true)(X8:W.hasDictIn K U=true)(XQ:W.plainOver K U=true)(XY:W.findIn K (.ref U) "__setattr__" = some (some (.builtin "object.__setattr__")))(XD:DL.gN K L (YT "Handing")=true)(T:DL.ju K "Handing" L=true)(XA:W.plainGet K L Đ=true)(P:W.hasDictIn K L=true)(XB:W.plainOver K L=true)(S:W.findIn K (.ref L) "__setattr__" = some (some (.builtin "object.__setattr__")))(X5:DL.gN K Y (YT "Parted")=true)(XI:DL.ju K "Parted" Y=true)(XG:W.plainGet K Y Đ=true)(XZ:W.hasDictIn K Y=true)(XM:W.plainOver K Y=true)(X9:W.findIn K (.ref Y) "__setattr__" = some (some (.builtin "object.__setattr__")))(H:DL.gN K Z (YT "Paper")=true)(J:DL.ju K "Paper" Z=true)(F:W.plainGet K Z Đ=true)(N:W.hasDictIn K Z=true)(M:W.plainOver K Z=true)(E:W.findIn K (.ref Z) "__setattr__" = some (some (.builtin "object.__setattr__")))(WJ:W.findIn K (.ref U) "heights" = some none)(WP:W.findIn K (.ref L) "part" = some none)(WU:W.findIn K (.ref Y) "parts" = some none)(WN:W.findIn K (.ref L) "ring" = some none)(X3:W.makesIn K U=true)(X4:W.findIn K (.ref U) "__init__" = some (some (.ref j)))(XU:W.isFn K (.ref j)=true)(XS:W.keepIn K (.ref U)=true)(X:K.lookup j=some ⟨Xd,Xq,.func (W.fnOf "__init__" "Rising.__init__" (L2.aX Law.lZ) (L2.aC Law.lZ) (L2.ab Law.lZ) .none Xg WZ Xl Xi x Xe),W3⟩)(Xj:W.codeIn K x "Rising.__init__" = true)(Xm:W.keepIn K (.ref j)=true)(O:W.makesIn K L=true)(Q:W.findIn K (.ref L) "__init__" = some (some (.ref m)))(XC:W.isFn K (.ref m)=true)(R:W.keepIn K (.ref L)=true)(Xc:K.lookup m=some ⟨WY,W5,.func (W.fnOf "__init__" "Handing.__init__" (L2.aX Law.l6) (L2.aC Law.l6) (L2.ab Law.l6) .none W6 WO Xa WX y W2),WT⟩)(W1:W.codeIn K y "Handing.__init__" = true)(W8:W.keepIn K (.ref m)=true)(XO:W.makesIn K Y=true)(XL:W.findIn K (.ref Y) "__init__" = some (some (.ref l)))(X0:W.isFn K (.ref l)=true)(XV:W.keepIn K (.ref Y)=true)(Xs:K.lookup l=some ⟨Xk,Xh,.func (W.fnOf "__init__" "Parted.__init__" (L2.aX Law.lY) (L2.aC Law.lY) (L2.ab Law.lY) .none Xf W4 Xp Xr w Xn),W7⟩)(Xo:W.codeIn K w "Parted.__init__" = true)(Xb:W.keepIn K (.ref l)=true)(WV:W.findIn K (.ref U) "shows" = some (some (.ref n)))(WQ:W.isFn K (.ref n)=true)(WF:K.lookup n=some ⟨Wy,Wq,.func (W.fnOf "shows" "Rising.shows" (L2.aX Law.l8) (L2.aC Law.l8) (L2.ab Law.l8) .none Wt Wb Ww WC A WE),Wl⟩)(Wp:W.codeIn K A "Rising.shows" = true)(Wv:W.keepIn K (.ref n)=true)(WL:W.findIn K (.ref L) "shows" = some (some (.ref i)))(WM:W.isFn K (.ref i)=true)(Wo:K.lookup i=some ⟨Wk,Wj,.func (W.fnOf "shows" "Handing.shows" (L2.aX Law.mh) (L2.aC Law.mh) (L2.ab Law.mh) .none Wh V7 Wg Wa B We),V6⟩)(Wd:W.codeIn K B "Handing.shows" = true)(Wi:W.keepIn K (.ref i)=true)(WS:W.findIn K (.ref Y) "shows" = some (some (.ref o)))(WR:W.isFn K (.ref o)=true)(WG:K.lookup o=some ⟨Wu,Ws,.func (W.fnOf "shows" "Parted.shows" (L2.aX Law.l7) (L2.aC Law.l7) (L2.ab Law.l7) .none Wm Wf Wx WA C Wz),Wc⟩)(WB:W.codeIn K C "Parted.shows" = true)(Wn:W.keepIn K (.ref o)=true)(u:W.specialIn K (.builtin "object.__class__") "__get__" = some (some (.builtin "getset_descriptor.__get__")))(t:W.takesIn K (.builtin "object.__class__")=some true)(Yp:W.findIn K (.ref U) "__class__" = some (some (.builtin "object.__class__")))(Yq:W.mroIn K U (.type "object")=some true)(Yn:W.findIn K (.ref L) "__class__" = some (some (.builtin "object.__class__")))(Ym:W.mroIn K L (.type "object")=some true)(Yr:W.findIn K (.ref Y) "__class__" = some (some (.builtin "object.__class__")))(Yo:W.mroIn K Y (.type "object")=some true)(Yt:W.findIn K (.ref Z) "__class__" = some (some (.builtin "object.__class__")))(Ys:W.mroIn K Z (.type "object")=some true)(XE:W.kitOne K (.ref L) (.ref L)=some true)(Yb:W.kitOne K (.ref Z) (.ref L)=some false)(X6:W.kitOne K (.ref U) (.ref L)=some false)(XR:W.kitOne K (.ref Y) (.ref L)=some false)(Yl:W.kitOne K (.ref Z) (.ref Z)=some true)(Yk:W.kitOne K (.ref U) (.ref Z)=some true)(Ya:W.kitOne K (.ref L) (.ref Z)=some true)(Yf:W.kitOne K (.ref Y) (.ref Z)=some true):∃(a:Addr)(c:Addr),(DL.fT K "heights" Law.nz)/\(DL.fT K "part" Law.oJ)/\(DL.fT K "parts" Law.oV)/\(DL.fT K "ring" Law.oK)/\(DL.MakeAt K e "Rising" "Rising" "Rising.__init__" Law.lZ)/\(DL.MakeAt K e "Handing" "Handing" "Handing.__init__" Law.l6)/\(DL.MakeAt K e "Parted" "Parted" "Parted.__init__" Law.lY)/\(DL.MethAt K "Rising" "shows" "Rising.shows" Law.l8)/\(DL.MethAt K "Handing" "shows" "Handing.shows" Law.mh)/\(DL.MethAt K "Parted" "shows" "Parted.shows" Law.l7)/\(e "Handing" = some (.ref a))/\(DL.kY K (.ref a) Law.o6)/\(e "Paper" = some (.ref c))/\(DL.kY K (.ref c) Law.lV):=by
 have r:=DL.uM XH XT X7 X8 XQ XY;have k:=DL.uM XD T XA P XB S;have s:=DL.uM X5 XI XG XZ XM X9;have Yu:=DL.uM H J F N M E;exact⟨L,Z,DL.uN [((YT "Rising"),U)] (by intro q d;simp only[s_,L_,Q_m]at d;rcases d with rfl <;> first|exact⟨r,WJ⟩) (fun f h=>by
   have p:=Za.mp h;simp_all),DL.uN [((YT "Handing"),L)] (by intro q d;simp only[s_,L_,Q_m]at d;rcases d with rfl <;> first|exact⟨k,WP⟩) (fun f h=>by
   have p:=Za.mp h
   grind),DL.uN [((YT "Parted"),Y)] (by intro q d;simp only[s_,L_,Q_m]at d;rcases d with rfl <;> first|exact⟨s,WU⟩) (fun f h=>by
   have p:=Za.mp h;simp_all),DL.uN [((YT "Handing"),L)] (by intro q d;simp only[s_,L_,Q_m]at d;rcases d with rfl <;> first|exact⟨k,WN⟩) (fun f h=>by
   have p:=Za.mp h
   grind),DL.C2 r (W.mg_of g G XJ) X3 X4 XU XS (L2.cY X Xj Xm),DL.C2 k (W.mg_of g G v) O Q XC R (L2.cY Xc W1 W8),DL.C2 s (W.mg_of g G X2) XO XL X0 XV (L2.cY Xs Xo Xb),DL.C3 r WV WQ (L2.cY WF Wp Wv),DL.C3 k WL WM (L2.cY Wo Wd Wi),DL.C3 s WS WR (L2.cY WG WB Wn),W.mg_of g G v,DL.KU u t [((YT "Handing"),L,true),((YT "Paper"),Z,false),((YT "Rising"),U,false),((YT "Parted"),Y,false)] (by simp_all) (fun f b h=>by
   unfold Law.o6 at h;split at h
   .cases h;rename_i z;have z:=Za.mp z;simp only[s_,L_,Q_m]at z;rcases z with rfl <;> simp
   .split at h
    .cases h;rename_i z;have z:=Za.mp z;simp only[s_,L_,Q_m]at z;rcases z with rfl|rfl|rfl <;> simp
    .cases h),W.mg_of g G I,DL.KU u t [((YT "Paper"),Z,true),((YT "Rising"),U,true),((YT "Handing"),L,true),((YT "Parted"),Y,true)] (by simp_all) (fun f b h=>by
   unfold Law.lV at h;split at h
   .cases h;rename_i z;have z:=Za.mp z;simp only[s_,L_,Q_m]at z;rcases z with rfl|rfl|rfl|rfl <;> simp
   simp_all)⟩
end Law
abbrev P0:=Qcg.prog
namespace PySem.W.Fast
def tw14472880597448770965:=0
def tw3128959092471310797:=0
def tw938507252639845750:=0
def tw1707326596948379897:=0
def tw12061100748093246967:=0
def tw18350302703591919331:=0
def tw623907617186790802:=0
def tw6145205679019334261:=0
def tw12725942697074793686:=0
def tw6530027821384559270:=0
def tw8001061545562628564:=0
def tw15910781111887795140:=0
def tw14719385710665977622:=0
def tw1496173114363914260:=0
def tw8095697794478205320:=0
def tw9463350035624422154:=0
def tw5248360726031059710:=0
def tw1248935791582256522:=0
def tw16108073226043363785:=0
def tw14599116459234433688:=0
def tw2607664195974731501:=0
def tw7439015615741053140:=0
def tw17776462746352366271:=0
def tw1528441778932571843:=0
def tw13685655966128497009:=0
def tw7491235659162816956:=0
def tw996219858505696942:=0
def tw7525407865714729778:=0
def tw235147541821478497:=0
def tw2718971742830640152:=0
def tw6296924756992497209:=0
def tw15193174793825531140:=0
def tw5677839578669142548:=0
def tw3370260423339673654:=0
def tw13734991987190145945:=0
def tw4266339353387514468:=0
def tw8878518905416708560:=0
def tw3054433925006447165:=0
def tw10361427179223822289:=0
def tw1725835382889791167:=0
def tw8084929626914792951:=0
def tw9291415399312691214:=0
def tw12861688401096343532:=0
def tw9831577616036024297:=0
def tw11415270881867020895:=0
def tw4212907400387123897:=0
def tw8306787498579899646:=0
def tw18439717188834198986:=0
def tw2305893925570498599:=0
def tw11080513063421161346:=0
def tw9923698421232343485:=0
def tw12560023284871864631:=0
def tw16950882220161088198:=0
def tw3670606858243994992:=0
def tw912913131344228261:=0
def tw3268322989977468697:=0
def tw12092270275851989640:=0
def tw13085598135905297215:=0
def tw9634917323749454108:=0
def tw12832929755028957850:=0
def tw8357219279172415112:=0
def tw1692309250662188902:=0
def tw2253856504681099423:=0
def tw6269293050167749135:=0
def tw8528611200938482510:=0
def tw5072445163895724040:=0
def tw7354337613428586416:=0
def tw15291389825158056631:=0
def tw6747779480059171433:=0
def tw14698943882363458162:=0
def tw5386247600903838143:=0
def tw6888724095191272610:=0
def tw14696108679655915446:=0
def tw8043943226613921711:=0
def tw15811276694434200927:=0
def tw3641546547683370040:=0
def tw8468370293611269538:=0
def tw15655246246391724719:=0
def tw15623415481169329383:=0
def tw12161752866157504884:=0
def tw11448308762729614260:=0
def tw7720341970889903260:=0
def tw6036524347117269016:=0
def tw6265338587511139376:=0
def tw13093826058720877411:=0
def tw5315479984762167985:=0
def tw8812053731719787777:=0
def tw4688205039042268991:=0
def tw9464939357625163490:=0
def tw14823864374812680090:=0
def tw1360773857098307844:=0
def tw7229873615328485537:=0
def tw17962558078330417577:=0
def tw5959555075094734570:=0
def tw15231265168959560574:=0
def tw11113332229040218943:=0
def tw17870828402392162133:=0
def tw7634219160611315979:=0
def tw7470623491006537748:=0
def tw17087575987222569982:=0
def tw11712189179286708535:=0
def tw6940408580469276268:=0
def tw7897432314677144550:=0
def tw18158644234890795321:=0
def tw12222610072229918079:=0
def tw9987145582847877499:=0
def tw10386388614068886836:=0
def tw5418398266600744304:=0
def tw1288286112168644734:=0
def tw17495060967370662558:=0
def tw18021684590031812287:=0
def tw5036500980716641934:=0
def tw3797956982490789713:=0
def tw10912949978754970175:=0
def tw15786558340311087310:=0
def tw2546085481845777927:=0
def tw15762224176480932755:=0
def tw12644265306790979227:=0
def tw2445586733891021208:=0
def tw13543509364885693230:=0
def tw6310024038407849811:=0
def tw709607523787147477:=0
def tw9489998981110834662:=0
def tw2791428004900812403:=0
def tw15435012108194533296:=0
def tw17685944673669946719:=0
def tw8974936753179127922:=0
def tw4195494226072131728:=0
def tw9537088120033425801:=0
def tw15522147195115277548:=0
def tw12511649600470256185:=0
def tw713070209724967060:=0
def tw12506223828537922927:=0
def tw15881810212709862563:=0
def tw10404052318046698580:=0
def tw10978309765111606855:=0
def tw12268222274123741483:=0
def tw2212518052046691939:=0
def tw1729396647633430223:=0
def tw7911918897334977564:=0
def tw4356003583470756688:=0
def tw9633987603881228194:=0
def tw4949543038846005838:=0
def tw6098293340659423210:=0
def tw13135244801156644153:=0
def tw14186885194062106021:=0
def tw9718295830936908035:=0
def tw10082477307177853585:=0
def tw7849108681635919626:=0
def tw7150200456515219837:=0
def tw7085377684750630541:=0
def tw9398271319405871978:=0
def tw15454281016705071287:=0
def tw3663596423832031571:=0
def tw4856527369632238004:=0
def tw13026052812299654607:=0
def tw4176499458777571294:=0
def tw4064283316555829710:=0
def tw9703591375513317297:=0
def tw5901109039422219435:=0
def tw3493856200753259528:=0
def tw6691080118381105246:=0
def tw2240925936205961021:=0
def tw10147544551550341949:=0
def tw14982154820537561389:=0
def tw4705255490642632531:=0
def tw2528642042158134663:=0
def tw4525751081731767637:=0
def tw15999327958334608324:=0
def tw5227878506290555616:=0
def tw12211087865631230651:=0
def tw6637988214745069162:=0
def tw12405024410279861194:=0
def tw6392778838654693083:=0
def tw17447313304184233816:=0
def tw12847080846164048075:=0
def tw17228376804294787038:=0
def tw203266744534354230:=0
def tw8059168023890872398:=0
def tw4608276182724263024:=0
def tw18101928696093969319:=0
def tw18116825090810151248:=0
def tw14000805308763065037:=0
def tw12596972939960521029:=0
def tw17984880745312855960:=0
def tw1195020039289044823:=0
def tw4745367106694803431:=0
def tw8038920007667850193:=0
def tw8118463111962271570:=0
def tw14341532138675103558:=0
def tw6060347250663956417:=0
def tw2019198082385330661:=0
def tw2077040242893868190:=0
def tw17479367019638348550:=0
def tw7149205087795782922:=0
def tw17693891995408312342:=0
def tw8203258670991067430:=0
def tw758857712127883591:=0
def tw11393012970161783506:=0
def tw1577409737557003199:=0
def tw7794967715447317015:=0
def tw10840384382709164537:=0
def tw10904518020126924776:=0
def tw11469216419675163837:=0
def tw4441877148566077538:=0
def tw9250181346640823642:=0
def tw11134397408013520583:=0
def tw6987276481286953715:=0
def tw8634705241065118464:=0
def tw983216314321356568:=0
def tw18278355095914071507:=0
def tw15367500944629097434:=0
def tw1899438815591403186:=0
def tw11536031633589316210:=0
def tw14254054202636148867:=0
def tw16864650785768506650:=0
def tw15020811817741685187:=0
def tw15561436582492157183:=0
def tw13116617101064910485:=0
def tw2325197626667193490:=0
def tw315009478378421322:=0
def tw5303998812014397863:=0
def tw8641338738970732321:=0
def tw10821706624898745517:=0
def tw10724167249464456565:=0
def tw4038356293694580762:=0
def tw10745584365592363983:=0
def tw2939707360451742803:=0
def tw2210770680235647805:=0
def tw12344276175242489151:=0
def tw1735253730928553386:=0
def tw3014556234451046546:=0
def tw2987380654112025054:=0
def tw14215288158827379070:=0
def tw8672313660354637314:=0
def tw4772391413582350406:=0
def tw12917112528488046631:=0
def tw2391669997521689543:=0
def tw16423075508281820201:=0
def tw2306093651157614062:=0
def tw16360343442828067822:=0
def tw16078674066490256267:=0
def tw6639159125282585594:=0
def tw13654600968789026682:=0
def tw15791830239480762271:=0
def tw1330624437628240621:=0
def tw13969737303672791709:=0
def tw18395556517576480622:=0
def tw7084537003919913704:=0
def tw12524643766168671298:=0
def tw2691151407751672845:=0
def tw11245736918255364500:=0
def tw4957879978887823703:=0
def tw3267011205548033778:=0
def tw5041025569812606995:=0
def tw11057248888880296109:=0
def tw16806473586516445704:=0
def tw2132032590317635686:=0
def tw14673913656521248375:=0
def tw7813405272715742344:=0
def tw10352686638272341644:=0
def tw9491675862396767233:=0
def tw13447139162375447417:=0
def tw879914667952217632:=0
def tw14627119555548205504:=0
def tw7019923948303808159:=0
def tw2636897716071252407:=0
def tw1959173755312359891:=0
def tw16392177022930270233:=0
def tw13284574789236778398:=0
def tw15971731546604373493:=0
def tw17875330001630615376:=0
def tw12370483405211464690:=0
def tw4559756934506206759:=0
def tw14425904946941681636:=0
def tw9423997944496183092:=0
def tw1976375445712396649:=0
def tw6840707768560134958:=0
def tw10740077602910666165:=0
def tw14344945995212470058:=0
def tw16783941496039424187:=0
def tw11488105668203752438:=0
def tw1613815077396921306:=0
end PySem.W.Fast
set_option maxRecDepth 100000 in
set_option maxHeartbeats 0 in
theorem PySem.Challenge.cw_ringtrade_k42_papers_of_tables_holds : PySem.Challenge.rw_ringtrade_k42_papers_of_tables.Holds := by
 w_on; o_law; k_head; (case hw=>w_witness2)
 k_fill
 refine DL.VC (l:=PySem.Challenge.rw_ringtrade_k42_papers_of_tables) (k:=11) (x := "_law_script") (F:=Law.uW) rfl rfl ⟨rfl,by decide,by decide,rfl⟩ (fun w h Y=>PySem.W.kIn_of Y) Law.main ?C
 intro w mg fa h KX G hmg
 have T:Law.Txt (L2.bm KX) mg:=by
  dsimp only [L2.bm]
  refine ⟨?u1,?u2,?u3,?u4,?u5,?u6,?u7,?u8,?u9,?va,?vb,?vc,?vd,?ve,?vf,?vg,?vh,?vi,?vj,?vk⟩
  case u1|u2|u3|u4|u5|u6|u7|u8|u9|va|vb|vc|vd|ve|vf|vg|vh|vi=>(refine' PySem.W.mg_none_of KX G ?_; k_is)
  case vj=>(refine' DL.KS KX G ?vl ?vm; (case vl=>k_is); (case vm=>k_is))
  case vk=>(refine' DL.KS KX G ?vn ?vo; (case vn=>k_is); (case vo=>k_is))
 obtain ⟨ug,uh,up,uq,ur,ut,vp,vq,vr,vs,vt,vu,vv,vw,vx,vy⟩:∃ (ug:Addr) (uh:Addr),(DL.fT (L2.bm KX) "heights" Law.nz)∧(DL.fT (L2.bm KX) "part" Law.oJ)∧(DL.fT (L2.bm KX) "parts" Law.oV)∧(DL.fT (L2.bm KX) "ring" Law.oK)∧(DL.MakeAt (L2.bm KX) mg "Rising" "Rising" "Rising.__init__" Law.lZ)∧(DL.MakeAt (L2.bm KX) mg "Handing" "Handing" "Handing.__init__" Law.l6)∧(DL.MakeAt (L2.bm KX) mg "Parted" "Parted" "Parted.__init__" Law.lY)∧(DL.MethAt (L2.bm KX) "Rising" "shows" "Rising.shows" Law.l8)∧(DL.MethAt (L2.bm KX) "Handing" "shows" "Handing.shows" Law.mh)∧(DL.MethAt (L2.bm KX) "Parted" "shows" "Parted.shows" Law.l7)∧(mg "Handing" = some (.ref ug))∧(DL.kY (L2.bm KX) (.ref ug) Law.o6)∧(mg "Paper" = some (.ref uh))∧(DL.kY (L2.bm KX) (.ref uh) Law.lV):=by
  dsimp only [L2.bm]
  refine' Law.VB KX G ?vz ?v0 ?v1 ?v2 ?v3 ?v4 ?v5 ?v6 ?v7 ?v8 ?v9 ?wa ?wb ?wc ?wd ?we ?wf ?wg ?wh ?wi ?wj ?wk ?wl ?wm ?wn ?wo ?wp ?wq ?wr ?ws ?wt ?wu ?wv ?ww ?wx ?wy ?wz ?w0 ?w1 ?w2 ?w3 ?w4 ?w5 ?w6 ?w7 ?w8 ?w9 ?xa ?xb ?xc ?xd ?xe ?xf ?xg ?xh ?xi ?xj ?xk ?xl ?xm ?xn ?xo ?xp ?xq ?xr ?xs ?xt ?xu ?gg ?gt ?xv ?xw ?xx ?xy ?xz ?x0 ?x1 ?x2 ?x3 ?x4 ?x5 ?x6 ?x7 ?x8 ?x9 ?ya
  case vz|v0|v1|v2=>k_is
  case v3|v4|v5|v6|v7=>kernel_rfl
  case v8=>k_is
  case v9|wa|wb|wc|wd=>kernel_rfl
  case we=>k_is
  case wf|wg|wh|wi|wj=>kernel_rfl
  case wk=>k_is
  case wl|wm|wn|wo|wp=>kernel_rfl
  case wq|wr|ws|wt|wu=>k_is
  case wv=>kernel_rfl
  case ww=>k_is
  case wx=>kernel_rfl
  case wy|wz|w0|w1=>k_is
  case w2=>kernel_rfl
  case w3=>k_is
  case w4=>kernel_rfl
  case w5|w6|w7|w8=>k_is
  case w9=>kernel_rfl
  case xa=>k_is
  case xb=>kernel_rfl
  case xc|xd|xe|xf|xg=>k_is
  case xh=>kernel_rfl
  case xi|xj|xk|xl=>k_is
  case xm=>kernel_rfl
  case xn|xo|xp|xq=>k_is
  case xr=>kernel_rfl
  case xs|xt|xu|gg|gt|xv=>k_is
  case xw=>kernel_rfl
  case xx=>k_is
  case xy=>kernel_rfl
  case xz=>k_is
  case x0=>kernel_rfl
  case x1=>k_is
  case x2|x3|x4|x5|x6|x7|x8|x9|ya=>kernel_rfl
 obtain ⟨ua,uc,yb,yc,yd,ye,yf,yg,uu,yh,yi,yj,uv,yk,yl,ym,yn,yo,ui,yp,yq,yr,ud,ys,yt,yu,yv,ub,yw,yx,yy,yz,y0,y1,y2,y3,y4,y5,y6,y7,y8,y9,za,zb,zc,zd,ze,zf,zg,zh,zi,zj,zk,zl⟩:DL.DefAt (L2.bm KX) mg "_law_cell" Law.Ar∧DL.DefAt (L2.bm KX) mg "_law_row" Law.zZ∧DL.DefAt (L2.bm KX) mg "_law_wishes" Law.Bo∧DL.DefAt (L2.bm KX) mg "_law_common" Law.Bn∧DL.DefAt (L2.bm KX) mg "_law_low" Law.zY∧DL.DefAt (L2.bm KX) mg "_law_parts" Law.AT∧DL.DefAt (L2.bm KX) mg "_law_plus" Law.At∧DL.DefAt (L2.bm KX) mg "_law_mixed" Law.AS∧DL.DefAt (L2.bm KX) mg "_law_steps" Law.AU∧DL.DefAt (L2.bm KX) mg "_law_least_heights" Law.CC∧DL.DefAt (L2.bm KX) mg "_law_numbers_made" Law.CO∧DL.DefAt (L2.bm KX) mg "_law_ring_walked" Law.B1∧DL.DefAt (L2.bm KX) mg "_law_less" Law.As∧DL.DefAt (L2.bm KX) mg "_law_ring_made" Law.Bz∧DL.DefAt (L2.bm KX) mg "_law_parts_made" Law.B9∧DL.DefAt (L2.bm KX) mg "_law_are_heights" Law.BZ∧DL.DefAt (L2.bm KX) mg "_law_can_hand" Law.BQ∧DL.DefAt (L2.bm KX) mg "_law_are_parts" Law.By∧DL.DefAt (L2.bm KX) mg "copied" Law.sT∧DL.DefAt (L2.bm KX) mg "things_in" Law.Ax∧DL.DefAt (L2.bm KX) mg "is_square" Law.Aw∧DL.DefAt (L2.bm KX) mg "greatest_divisor" Law.B2∧DL.DefAt (L2.bm KX) mg "is_whole" Law.zT∧DL.DefAt (L2.bm KX) mg "fraction" Law.z8∧DL.DefAt (L2.bm KX) mg "plus" Law.xM∧DL.DefAt (L2.bm KX) mg "total" Law.yG∧DL.DefAt (L2.bm KX) mg "has_worth" Law.Av∧DL.DefAt (L2.bm KX) mg "less" Law.xL∧DL.DefAt (L2.bm KX) mg "is_row_of_shares" Law.B3∧DL.DefAt (L2.bm KX) mg "why_no_table" Law.A9∧DL.DefAt (L2.bm KX) mg "is_table" Law.zS∧DL.DefAt (L2.bm KX) mg "likes" Law.yE∧DL.DefAt (L2.bm KX) mg "hands_that_rise" Law.Ca∧DL.DefAt (L2.bm KX) mg "steps_up" Law.zV∧DL.DefAt (L2.bm KX) mg "rises_from" Law.AW∧DL.DefAt (L2.bm KX) mg "are_heights" Law.Bp∧DL.DefAt (L2.bm KX) mg "least" Law.yD∧DL.DefAt (L2.bm KX) mg "can_hand" Law.z7∧DL.DefAt (L2.bm KX) mg "can_be_handed" Law.BB∧DL.DefAt (L2.bm KX) mg "is_below" Law.z9∧DL.DefAt (L2.bm KX) mg "first_wrong" Law.Br∧DL.DefAt (L2.bm KX) mg "are_unlike" Law.AV∧DL.DefAt (L2.bm KX) mg "ones_behind" Law.Bs∧DL.DefAt (L2.bm KX) mg "is_share_ring" Law.p6∧DL.DefAt (L2.bm KX) mg "has_each_once" Law.BC∧DL.DefAt (L2.bm KX) mg "is_part" Law.zO∧DL.DefAt (L2.bm KX) mg "are_parts" Law.Au∧DL.DefAt (L2.bm KX) mg "share_in" Law.zU∧DL.DefAt (L2.bm KX) mg "mixed" Law.yF∧DL.DefAt (L2.bm KX) mg "_law_asked" Law.AR∧DL.DefAt (L2.bm KX) mg "_law_all_orders" Law.B7∧DL.DefAt (L2.bm KX) mg "_law_bound_well" Law.B8∧DL.DefAt (L2.bm KX) mg "_law_forged_well" Law.B0∧DL.DefAt (L2.bm KX) mg "law" Law.wD:=by
  dsimp only [L2.bm]
  refine ⟨?_,?_,?_,?_,?_,?_,?_,?_,?_,?_,?_,?_,?_,?_,?_,?_,?_,?_,?_,?_,?_,?_,?_,?_,?_,?_,?_,?_,?_,?_,?_,?_,?_,?_,?_,?_,?_,?_,?_,?_,?_,?_,?_,?_,?_,?_,?_,?_,?_,?_,?_,?_,?_,?_⟩ <;> (refine' DL.VD KX G ?a ?l ?c ?k; (case a | l | c | k=>k_is))
 refine DL.VE hmg zl (fun _ _ _ _ _ _ us hl=>match us,hl with | [_],_=>rfl) fun f fd Fn base=>?_
 have uj:=Law.AZ.2 (P:=P0) (w:=w) (base:=base) T yb (Law.kW T ua) (Law.qS T uc)
 have ue:=Law.HC.2 (P:=P0) (w:=w) (base:=base) T yd (Law.Ji.2 T yc)
 have uw:=Law.HL.2 (P:=P0) (w:=w) (base:=base) T yf ue
 have uf:=Law.Ap.2 (P:=P0) (w:=w) (base:=base) T yg uw
 have ux:=Law.BO.2 (P:=P0) (w:=w) (base:=base) T yo uw uf
 have uk:=Law.Pl (P:=P0) (w:=w) (base:=base) T vr (Law.uX T ui) ur
 have ul:=Law.rW.2 (P:=P0) (w:=w) (base:=base) T yu (Law.D5.2 T yt (Law.HE.2 T ys (Law.oF.2 T ud) (Law.Kp.2 T yr)))
 have um:=Law.sY.2 (P:=P0) (w:=w) (base:=base) T yv (Law.oF.2 T ud)
 have un:=Law.zQ.2 (P:=P0) (w:=w) (base:=base) T yy (Law.JM.2 T yx (Law.B6.2 T yw um ul (Law.mU.2 T ub)) ul) (Law.zM.2 T yq (Law.zN.2 T yp))
 have uy:=Law.Bx.2 (P:=P0) (w:=w) (base:=base) T y0 (Law.mU.2 T ub) (Law.EW.2 T yz)
 have uz:=Law.zP.2 (P:=P0) (w:=w) (base:=base) T y7 (Law.oF.2 T ud)
 have u0:=Law.IV.2 (P:=P0) (w:=w) (base:=base) T y9 (Law.tR.2 T y8 uz)
 have uo:=Law.N1 (P:=P0) (w:=w) (base:=base) (Law.RL T vs (Law.AQ.2 T y3 (Law.oF.2 T ud) (Law.zR.2 T y1 uy) (Law.IW.2 T y2)) un up) (Law.A4.2 T vt (Law.tU.2 T zb uz u0 (Law.Jj.2 T za) uy) un (Law.A6.2 T y6 (Law.HD.2 T y5 (Law.EV.2 T y4 (Law.mU.2 T ub))) (Law.mU.2 T ub) um) ut uq) (Law.AO.2 T vu (Law.EX.2 T zg (Law.HF.2 T zf ul)) (Law.zL.2 T ze (Law.zv.2 T zd (Law.A7.2 T zc u0) (Law.mU.2 T ub) um)) un ur)
 exact Law.uV.2 T Fn (Law.kW T ua) uj (Law.Aq.2 T ye (Law.kW T ua) (Law.qS T uc) ue) uf (Law.BY.2 T yi (Law.kW T ua) (Law.Ky.2 T yh (Law.sU.2 T uu))) (Law.BP.2 T yk (Law.kW T ua) (Law.TW T yj (Law.sU.2 T uu)) (Law.qS T uc) (Law.xY.2 T uv)) (Law.Bv.2 T yl (Law.kW T ua)) (Law.A5.2 T yn (Law.xY.2 T uv)) (Law.B4.2 T ym) ux uk (Law.QE T vq (Law.uX T ui) uq ut) (Law.Pm T vp (Law.uX T ui) up) (Law.IU.2 T zh uo vx vy) (Law.B5.2 T zk (Law.kW T ua) (Law.qS T uc) uf ue uk uj uo ux) (Law.Bu.2 T zj (Law.kW T ua) (Law.J4.2 T zi) ue uk uf uj uo) vv vw
end
