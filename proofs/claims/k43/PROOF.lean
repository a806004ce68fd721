import PyProof.Rows.All
import Wide.All
import OpenK.AllK
import Wide.FinOn
import Lean
import PyProof.EqAt
import PyProof.EqKinds
import PyProof.TupleCall
import PyProof.Rows.SetFrom
import KE.KSortTup
import PyProof.Draws
import PyProof.EnumMake
import PyProof.ListRange
import PyProof.Rows.EnumRows
import PyProof.SetRoads
import PyProof.Rows.MinMaxN
import PyProof.Rows.MaxTwoN
import PyProof.ZipIter
import PyProof.TupleOfSeq
import PyProof.TupleKey
import PyProof.InstSpecial
import PySem.Challenge.RW_ringtrade_k43_papers_of_another_kind
noncomputable section
open PySem renaming wpAny_bind->a_,starEach->f_,Shared->h_,wpAny_pure->n_,wpAny->w_,model->B_,Program->C_,sizeLine_eq->J_,mainGlobals->K_,World->N_,Around->W_,wpAny_field->Y5,compareOp->Y6,wpAny_mono->Y7,assignEach->Zi,wpAny_newObj_type->Zk,foldedSetIterable->Zq,FuncData->Zt,wpAny_loadPart'->ZD,wpAny_Call_Name_kw->ZE,wpAny_callSpecial?_slot->ZH,wpAny_holding->ZJ,mem_of_lookup->ZM,wpAny_seqItems->Z1,excClassObj->Z2,binaryOp->Z_,behindInMarks->Qab,attributeBase->Qac,cLine->Qag,wpAny_setField_rec->Qai,wpAny_passesOwn->Qak,holding->Qam,codeAny_mono->Qan,wpAny_typeOf->Qao,sysModules->Qar,IsPair->Qau,wpAny_isSubtype_exc->Qav,swapsWith->Qaw,assign->Qax,wpAny_call_entry->Qay,wpAny_setField->Qaz,call_meets->QaB,wpAny_pyIter_tuple->QaC,wpAny_execs_nil->QaF,codeAny_builtin->QaG,wpAny_standAt->QaH,setFlight->QaI,wpAny_truthy_bool->QaL,wpAny_loadPart_at->QaM,keywordEach->QaP,NameKind->QaQ,bootBuiltins->QaS,Builtin->QaT,Scope->Qa1,wpAny_comprehension_free->Qa4,wpAny_call->Qa8,tupleKind_room_in1->Qa9,sliceBounds->Qbe,rawInt->Qbh,wpAny_pyIter_list->Qbi,bindArgs->Qbk,plainObj_wpAny_Assign_Attribute->Qbs,noteFrame->Qbx,wpAny_typeOf_ref->Qby,codeAny->QbA,wpAny_updateSeq_pair->QbD,codeAny_call_builtin->QbE,evalEach->QbF,letOwnedTupleGo->QbJ,PassesOwn->QbT,wpAny_loadPart->QbW,backToKw->QbX,IsZip->Qb2,wpAny_binaryOp_repeat_ref->Qb8,wpAny_assign_Name->Qb9,standAt->Qca,wpAny_pyIter_enum->Qce,wpAny_setState_of->Qcg,wpAny_onRaise->Qcj,noFill_tuple_add->Qcn,concat_meets->Qcr,IsPart->Qcs,getItem->Qct,typeIs_int->Qcx,Keyword->Qcy,callerA->QcA,notedBy->QcC,codeAny_of_tree->QcF,exec_Assign_Name_used->QcH,pyNext->QcL,compEnvC->QcR,hashByValue->QcT,tupleKind->QcW,getMethod->QcX,valueAt->QcY,OwnTail->QcZ,codeAny_forLoop_any->Qc1,swapsWithSole->Qc5,swappedStores->Qc6,rangeSize_one->Qc7,seq_tuple_add->Qc8,Draws->Qda,plainId_quiet->Qdb,PlainAttrs->Qdi,wpAny_rule->Qdl,Within->Qdn,GenState->Qdp,setItem->Qdq,BindsTo->Qdu,wpAny_sequenceKey->Qdv,slot_list_getitem->Qdw,relabel->Qdz,callType_new->QdB,ItemsOf->QdC,DictEntry->QdN,seqIndex_of->QdX,atKey->QdY,wpAny_letGo->Qd1,builtinsNs->Qed,Model->Qee,wpAny_Name->Qef,pyIter->Qeg,wpAny_load->Qeh,Result->Qej,callWith->Qek,bindL->Qel,bindC->Qem,call->Qen,closureFor->Qeo,field->Qep,isInstance->Qet
open List renaming getElem?_set_ne->b_,replicate->d_,mem_cons->e_,range->g_,getElem?_eq_some_iff->i_,getElem?_set_self->j_,mem_cons_of_mem->m_,getElem?_eq_getElem->o_,not_mem_nil->p_,length_map->q_,mem_cons_self->r_,mem_range->s_,size_toArray->u_,getElem?_map->x_,getD_eq_getElem?_getD->A_,mem_singleton->H_,Nodup->I_,map_map->L_,mem_append_right->M_,map_append->Q_,find?_cons->R_,length_cons->T_,map_cons->U_,mem_map->V_,length_append->Y3,getElem?_append_left->Y4,nodup_cons->Zd,all_eq_true->Ze,append_nil->Zl,nodup_range->Zn,contains_iff_mem->Zp,getElem?_replicate->Zr,getElem?_range->Zx,map->ZL,replicate_succ->ZN,length_set->ZO,drop_eq_getElem_cons->ZQ,length_replicate->ZR,getElem?_eq_none->ZS,any_eq_true->ZU,length_erase_of_mem->ZY,lookup->ZZ,mem_of_getElem?->Z0,mem_filter->Z7,filterMap_cons->Z9,length_take->Qad,getElem_mem->Qae,getElem?_append_right->Qah,forIn_cons->Qal,flatten_cons->Qap,all_cons->Qas,any_cons->Qat,lookup_cons->QaA,any_map->QaD,mem_append->QaE,mem_of_mem_erase->QaK,mem_append_left->QaO,zipWith->QaU,drop_length->QaV,map_congr_left->QaY,of_mem_zip->Qa6,nil_append->Qa7,contains_cons->Qba,reverse_cons->Qbn,take_of_length_le->Qbo,ext_getElem?->Qbp,flatten_replicate_singleton->Qbr,length_singleton->Qbt,length_drop->Qbv,foldl->Qbw,mem_erase_of_ne->QbG,map_const'->QbK,range_succ->QbN,length_zipWith->QbP,getElem_of_mem->QbR,find?_eq_none->Qb6,append_assoc->Qcb,length_range->Qcf,eq_of_mem_replicate->Qcm,range'_succ->Qco,filter_cons->Qcp,map_id'->QcE,getElem?_zipWith->QcG,take_eq_take_iff->QcJ,length_filter_le->QcK,length->QcN,forIn_nil->QcS,range_eq_range'->QcU,length_reverse->Qc2,map_take->Qdc,map_drop->Qdd,mem_replicate->Qdm,idxOf_append->QdH,nodup_append->QdI,map_set->QdJ,zipIdx_cons->QdQ,cons_append->QdV,range'->QdZ,length_nil->Qd3,zipIdx_nil->Qd6,idxOf_cons->Qea,nodup_nil->Qeq,drop_zero->Qeu,map_nil->QeL
open PySem.Heap renaming get?_push_of_some->c_,get?_push_size->t_,lt_size->z_,get?_update_self->Y_,size_push->Zj,get?_update_ne->Zo,get?_none_of_le->QaN,SameBut->Qbg,get?_update_other->Qcw,FunFrames->QcQ,get?_push_at->QdG,MadeExcOf->Qes
open Bool renaming false_ne_true->k_,and_eq_true->P_,eq_iff_iff->Zc,false_eq_true->Qbb,not_eq_true'->Qch,or_true->QcB,false_or->Qc9,or_eq_true->Qd5,or_false->QeF,and_self->QeH
open Nat renaming le_refl->y_,lt_of_lt_of_le->F_,ne_of_lt->G_,le_trans->Y8,zero_le->Zf,lt_irrefl->Zw,lt_succ_self->ZT,ne_of_gt->ZV,lt_succ_of_lt->Z6,le_of_eq->Qbj,lt_of_succ_lt_succ->QcD,le_succ->QcM,le_of_lt->Qdo,mul_comm->Qdx,zero_add->QdE,min_le_right->QdK,succ_le_succ->QdO,le_add_right->QdS,min_eq_left->Qeb
open PySem.Str renaming ofString->D_,empty->Qbc
open Option.some renaming inj->E_,injEq->QdD
open Array renaming getElem?_setIfInBounds_self_of_lt->O_,getElem?_eq_some_iff->Zu,toArray_toList->QbC,length_toList->QbO,find?_toList->Qdg,ext_getElem?->Qdj,getElem_mem->Qdy,toList->QeJ
open PySem.PassesOwn renaming never->S_
open PySem.Obj renaming mapFields->X_,mapSeq->Qcv,data_mapFields->Qdk
open False renaming elim->Y2
open PyProof.Rows renaming slot_tuple_getitem->Y9,callWith_type1->ZI,envOfC->QaX,AllBare->Qbf,callWith_builtin1->Qbu,boot_isinstance->QbM,subscriptTail_builtinR->Qcu,IntsAre->Qec,boot_range->Qei
open PySem.F renaming plainAttrs_list->Za,slot_tuple_index->Zm,plainAttrs_tuple->ZB,type_tuple_index->ZC,slot_list_append->ZW,type_list_append->ZX,args_tuple_add_2->Qa2,slot_list_remove->Qa5,entry_tuple_add->Qbd,slot_tuple_add->Qbl,excBase_ValueError->Qb5,slot_list_insert->Qci,store_ValueError->Qck,type_list_remove->Qcl
open PySem.Builtin.SmallTypes renaming nextOf->Zb,ownedTupleIsFree->Zz,ownedTupleHandOut->QaZ
open PySem.Builtin.Tuple renaming tupleExact->Zg,tupleTooMany->QaR,tupleItemsOf->QbZ,tupleIsExact->Qb1
open PySem.PyData renaming eqvAll->Zh,canLay0->Zv,eqv->ZF,depth->ZK,depthAll->QbL,canLayAll0->Qcd,strOk->QdA
open Int renaming toNat_natCast->Zy,ofNat_inj->QaJ,fdiv_eq_ediv_of_nonneg->QbV,natCast_nonneg->Qb7,toNat_of_nonneg->Qc4,natCast_mul->Qd7
open PySem.Builtin.Range renaming rangeSize->ZG,small->QbS
open Ne renaming symm->ZP
open PySem.SetTable renaming fresh->Z3,tooFull->QdR,slot->QeG
open PySem.Builtin.Str renaming occurrences->Z4
open LawfulBEq renaming eq_of_beq->Z5
open Option renaming map_some->Z8,bind_some->Qaf,isSome_map->Qcc,map_eq_some_iff->Qcz,getD_none->QdM,getD_some->QdU,map_none->Qd4
open Function renaming comp_apply->Qaa,comp_def->Qbq
open PySem.Builtin.Slice renaming slicePlaces->Qaj,sliceAdjust->QaW,sliceApplied->QbY,slicePartIndex->Qd2,sliceFields->Qez
open PySem.Around renaming under_plainId->Qaq,under->Qcq
open PySem.Builtin.Int renaming intBits->Qa0,intTooBig->QcI
open PySem.Builtin.List renaming listTooLong->Qa3,listFitsIndex->Qb0
open PySem.Calls renaming callWith_builtin->Qbm,Name_function_global->QbU,evalArgs_plain->QcO,spliced_cons->Qdh,spliced_nil->Qdt
open PySem.Builtin.ObjectAttr renaming storeInDict->Qbz,newKeyGuard->QdT
open PySem.Shared renaming TypeIs->QbB,heap->Qd0
open PySem.Challenge renaming pw_ringtrade_k43_papers_of_another_kind->QbH,rw_ringtrade_k43_papers_of_another_kind->QbI
open PySem.Heap.SameBut renaming update->QbQ
open PySem.W renaming findIn->Qb3,kia_tup->Qc0
open PySem.Code renaming quiet_builtin->Qb4,isFrame->Qds,isGuard->QeK
open Std.Legacy.Range renaming forIn_eq_forIn_range'->QcP
open List.Perm renaming refl->QcV
open PySem.EntryCells renaming newEntry->Qc3
open PySem.SeqAt.EqAt renaming int_str->Qde,str_int->Qdf
open PySem.Heap.Ns1 renaming of_empty->Qdr
open PySem.SetTable.probe renaming go->QdF
open PyProof.Rows.IsTup renaming new->QdL
open PySem.MeetsSeq renaming EqGives->QdP
open Sum.inl renaming inj->QdW
open PySem.Builtin.Frozenset renaming updateFrom->Qd8,newClass->Qer
open PySem.Heap.Ns renaming of_isNs->Qd9
open PySem.EqMixed renaming eq_bool_str->Qev,eq_str_bool->Qew,ne_bool_str->Qex,ne_str_bool->Qey,eq_int_str->QeB,eq_str_int->QeC,ne_int_str->QeD,ne_str_int->QeE
open PySem.Value renaming isStrOf->QeA,isInt->QeN
open List.Pairwise renaming imp_of_mem->QeI
open PySem.SeqAt renaming shaped->QeM
open PySem.W.WShape renaming has->QeO
set_option Elab.async false
set_option linter.all false
set_option maxRecDepth 100000
set_option maxHeartbeats 4000000
section
namespace L2
open PySem PySem.Spec PyProof.Rows
abbrev bH:=Sum Int Str
def on:bH->Value->Bool
|.inl k,v=>QeN k v
|.inr x,v=>QeA x v
def EG(w:N_):bH->Int
|.inl k=>hashInt k
|.inr x=>hashStr w x
def keyIs_shape:∀{k:bH}{v:Value},on k v=true->(∃i t,k=Sum.inl i/\v=Value.int i t)\/(∃x t,k=Sum.inr x/\v=Value.str x t)
|.inl i,v,h=>by obtain⟨t,e⟩:=Value.isInt_shape (k:=i) (v:=v) h;exact .inl ⟨i,t,rfl,e⟩
|.inr x,v,h=>by obtain⟨t,e⟩:=Value.isStrOf_shape (x:=x) (v:=v) h;exact .inr ⟨x,t,rfl,e⟩
def RH(i:Int)(t:Tok):on (.inl i) (.int i t)=true:=by simp[on,QeN]
def RI(x:Str)(t:Tok):on (.inr x) (.str x t)=true:=by simp[on,QeA]
def MY(a b:Int):decide ((Sum.inl a:bH)=Sum.inl b)=(a==b):=by
 by_cases e:a=b
 .subst e;simp
 .have h:¬ (Sum.inl a:bH)=Sum.inl b:=fun q=>e (QdW q);rw[decide_eq_false h];exact(beq_eq_false_iff_ne.mpr e).symm
def M1(a b:Str):decide ((Sum.inr a:bH)=Sum.inr b)=decide (a=b):=by
 by_cases e:a=b
 .subst e;simp
 .have h:¬ (Sum.inr a:bH)=Sum.inr b:=fun q=>e (Sum.inr.inj q);rw[decide_eq_false h,decide_eq_false e]
def MZ(a:Int)(b:Str):decide ((Sum.inl a:bH)=Sum.inr b)=false:=decide_eq_false (fun q=>nomatch q)
def M0(a:Str)(b:Int):decide ((Sum.inr a:bH)=Sum.inl b)=false:=decide_eq_false (fun q=>nomatch q)
def ic(prog:C_)(w:N_):PySem.KeyKind prog w bH where
 is:=on
 hash:=EG w
 inj:=fun v a b ha hb=>by
  rcases keyIs_shape ha with⟨i,t,rfl,rfl⟩|⟨x,t,rfl,rfl⟩
  .rcases keyIs_shape hb with⟨j,u,rfl,e⟩|⟨y,u,rfl,e⟩
   .injection e with e1 _;rw[e1]
   .exact nomatch e
  .rcases keyIs_shape hb with⟨j,u,rfl,e⟩|⟨y,u,rfl,e⟩
   .exact nomatch e
   .injection e with e1 _;rw[e1]
 byValue:=fun k v h=>by rcases keyIs_shape h with⟨i,t,rfl,rfl⟩|⟨x,t,rfl,rfl⟩ <;> rfl
 pyHash:=fun hv h=>by
  rcases keyIs_shape hv with⟨i,t,rfl,rfl⟩|⟨x,t,rfl,rfl⟩
  .exact wpAny_pyHash_int h
  .exact wpAny_pyHash_str h
 eqBool:=fun hu hv h=>by
  rcases keyIs_shape hu with⟨i,t,rfl,rfl⟩|⟨x,t,rfl,rfl⟩
  .rcases keyIs_shape hv with⟨j,u,rfl,rfl⟩|⟨y,u,rfl,rfl⟩
   .rw[MY]at h;exact wpAny_eqBool_int h
   .rw[MZ]at h;exact Qde i t y u _ _ _ _ h
  .rcases keyIs_shape hv with⟨j,u,rfl,rfl⟩|⟨y,u,rfl,rfl⟩
   .rw[M0]at h;exact Qdf x t j u _ _ _ _ h
   .rw[M1]at h;exact wpAny_eqBool_str h
 «strs»:=fun k x t v h=>by
  rcases keyIs_shape h with⟨i,u,rfl,e⟩|⟨y,u,rfl,e⟩
  .exact nomatch e
  .injection e with e1 _
   subst e1;cases v <;> rfl
def S4(prog:C_)(w:N_)(i:Int)(t:Tok):(ic prog w).is (.inl i) (.int i t)=true:=RH i t
def S9(prog:C_)(w:N_)(x:Str)(t:Tok):(ic prog w).is (.inr x) (.str x t)=true:=RI x t
inductive V where
 |non|bl (b:Bool)|int (i:Int)|str (x:Str)|byt (b:Array UInt8)|flt (b:UInt64)|ref (a:Addr)|ty (n:String)
 deriving DecidableEq
def aS:V->Value->Prop
|.non,u=>u=Value.none
|.bl b,u=>u=Value.bool b
|.int i,u=>∃t,u=Value.int i t
|.str x,u=>∃t,u=Value.str x t
|.byt b,u=>∃t,u=Value.bytes b t
|.flt b,u=>∃t,u=Value.float b t
|.ref a,u=>u=Value.ref a
|.ty n,u=>u=Value.type n
abbrev aN:List V->List Value->Prop:=Paired aS
def aN.length{xs:List V}{us:List Value}(r:aN xs us):xs.length=us.length:=Paired.length r
def aN.get:∀{xs:List V}{us:List Value}{i:Nat}{x:V},aN xs us->xs[i]? = some x->∃u,us[i]? = some u/\aS x u
|_,_,_,_,.nil,e=>by simp at e
|_,_,0,_,.cons r _,e=>by simp at e;subst e;exact⟨_,rfl,r⟩
|_,_,i+1,x,.cons _ t,e=>by obtain⟨u,h1,h2⟩:=aN.get (i:=i) (x:=x) t (by simpa using e);exact⟨u,by simpa using h1,h2⟩
def aN.set{x:V}{u:Value}(r:aS x u):∀{xs:List V}{us:List Value}(i:Nat),aN xs us->aN (xs.set i x) (us.set i u)
|_,_,_,.nil=>.nil
|_,_,0,.cons _ t=>.cons r t
|_,_,i+1,.cons q t=>.cons q (aN.set r i t)
def aN.append{xs ys:List V}{us ws:List Value}(h:aN xs us)(h':aN ys ws):aN (xs++ys) (us++ws):=by induction h with
|nil=>exact h'
|cons r _ ih=>exact .cons r ih
def aN.take:∀{xs:List V}{us:List Value}(n:Nat),aN xs us->aN (xs.take n) (us.take n)
|_,_,0,_=>.nil
|_,_,_+1,.nil=>.nil
|_,_,n+1,.cons r t=>.cons r (aN.take n t)
def aN.drop:∀{xs:List V}{us:List Value}(n:Nat),aN xs us->aN (xs.drop n) (us.drop n)
|_,_,0,r=>r
|_,_,_+1,.nil=>.nil
|_,_,n+1,.cons _ t=>aN.drop n t
def dN:Option V->Option Value->Prop
|some v,some u=>aS v u
|none,none=>True
|_,_=>False
def KV{κ:Type}:List (κ×V)->List (κ×Value)->Prop:=Paired fun(p:κ×V)(q:κ×Value)=>p.1=q.1/\aS p.2 q.2
def kV:bH->V
|.inl i=>.int i
|.inr x=>.str x
inductive HO where
 |lst (xs:List V)
 |tup (xs:List V)
 |dK (kvs:List (bH×V))|dT (kvs:List (List bH×V))
 |set (S:Int->Bool) (n:Nat)
 |ins (C dx:Addr) (fs:List (Str×V))
 |own (x:Addr)
 |xd (fs:List (Str×V))
 |met (f x:Addr)
 |rng (lo hi:Int)
 |frz (o:Obj) (u:HO)
 |tbl (ps:Array Value)
 |ext (φ:Heap->Prop)
abbrev Hp:=Addr->Option HO
def upd(H:Hp)(a:Addr)(o:HO):Hp:=fun b=>if b=a then some o else H b
def cQ{H:Hp}{a:Addr}{o:HO}:upd H a o a=some o:=by unfold upd;rw[if_pos rfl]
def bX{H:Hp}{a b:Addr}{o:HO}(h:b≠a):upd H a o b=H b:=by unfold upd;rw[if_neg h]
def Lv{H:Hp}{a b:Addr}{o u:HO}(h:H a=some o)(h':H b=some u)(d:o≠u):a≠b:=by intro e;subst e;rw[h]at h';exact d (E_ h')
def mO{H:Hp}{a b:Addr}{o:HO}(h:H a=some o)(h':H b=none):a≠b:=by intro e;subst e;rw[h]at h';cases h'
section
variable(P:C_)(w:N_)
def du(H:Hp)(h:Heap)(a:Addr):HO->Prop
|.lst xs=>xs.length<=sizeLine/\∃(its:List Value)(n:Nat),aN xs its/\h.get? a=some { cls:=.type "list",data:=.seq its.toArray n }
|.tup xs=>xs.length<=sizeLine/\∃its:List Value,aN xs its/\IsTup h a its.toArray/\∃o,h.get? a=some o/\o.dict=none
|.dK kvs=>kvs.length<=sizeLine/\(a==Qar)=false/\∃vs,KV kvs vs/\h.DictOf (ic P w) a vs
| .dT kvs=>kvs.length<=sizeLine/\(a == Qar)=false/\∃xs:List (List bH × Addr × Value),
   Paired (fun(p:List bH×V)(q:List bH×Addr×Value)=>p.1=q.1/\H q.2.1=some (.tup (p.1.map kV))/\aS p.2 q.2.2) kvs xs /\∃o es ep,h.get? a=some o/\o.ExactDict/\o.data=.dict es ep/\es.toList=xs.map (entryOfKey (QcW (ic P w)))/\(xs.map (·.1)).Nodup
|.set S n=>h.SetOf (intKind P w) a S n
| .ins C dx fs=>H dx=some (.own a)/\fs.length<=1000/\dx≠a/\h.get? a=some (W.instObj C dx) /\
   ∃mA,h.Ns1 dx mA/\(∀f,dN (fs.lookup f) (mA f))/\Qdn mA (fs.map (·.1))
|.own _=>∃o,h.get? a=some o
|.xd fs=>∃mA,h.Ns1 a mA/\∀f,dN (fs.lookup f) (mA f)
|.rng lo hi=>∃t u v,h.get? a=some { cls:=.type "range",data:=.fields #[.int lo t,.int hi u,.int 1 v] }
|.frz o u=>h.get? a=some o/\du H h a u
|.tbl ps=>h.get? a=some { cls:=.none,data:=.fields ps }
|.met f x=>h.get? a=some (W.methodObj (.ref f) (.ref x))
|.ext φ=>φ h/\(∃o,h.get? a=some o)/\∀h1 h2:Heap,φ h1->(∀o,h1.get? a=some o->h2.get? a=some o)->φ h2
def dH(H:Hp)(h:Heap):Prop:=∀a o,H a=some o->du P w H h a o
end
variable{P:C_}{w:N_}{H H':Hp}{h h':Heap}{a:Addr}{o:HO}
def du.lt(x:du P w H h a o):a<h.objs.size:=by cases o with
|lst xs=>obtain⟨_,_,_,_,e⟩:=x;exact z_ e
|tup xs=>obtain⟨_,_,_,p,_⟩:=x;exact p.lt
|dK kvs=>obtain⟨_,_,_,_,o,_,_,e,_⟩:=x;exact z_ e
|dT kvs=>obtain⟨_,_,_,_,o,_,_,e,_⟩:=x;exact z_ e
|set S n=>obtain⟨o,_,_,_,e,_⟩:=x;exact z_ e
|ins C dx fs=>obtain⟨_,_,_,e,_⟩:=x;exact z_ e
|own y=>obtain⟨_,e⟩:=x;exact z_ e
|xd fs=>obtain⟨_,⟨_,_,_,e,_⟩,_⟩:=x;exact z_ e
|rng lo hi=>obtain⟨_,_,_,e⟩:=x;exact z_ e
|frz ob u=>obtain⟨e,_⟩:=x;exact z_ e
|tbl ps=>exact z_ (show h.get? a=some _ from x)
|met f y=>exact z_ (show h.get? a=some _ from x)
|ext φ=>obtain⟨_,⟨_,e⟩,_⟩:=x;exact z_ e
def Paired.mapP{α β:Type}{F G:α->β->Prop}{z:List α}{U:List β}(h:Paired F z U)(f:∀a b,F a b->G a b):Paired G z U:=by induction h with
|nil=>exact .nil
|cons r _ ih=>exact .cons (f _ _ r) ih
def du.stay(x:du P w H h a o)(k:∀b u,(b=a\/H b=some (.own a))->h.get? b=some u->h'.get? b=some u)(ho:∀b,H b=some (.own a)->H' b=some (.own a))(ht:∀b xs,H b=some (.tup xs)->H' b=some (.tup xs)):du P w H' h' a o:=by induction o with
|lst xs=>obtain⟨z,its,n,r,e⟩:=x;exact⟨z,its,n,r,k _ _ (.inl rfl) e⟩
|tup xs=>obtain⟨z,its,r,⟨ob,e,c⟩,U,e2,c2⟩:=x;exact⟨z,its,r,⟨ob,k _ _ (.inl rfl) e,c⟩,U,k _ _ (.inl rfl) e2,c2⟩
|dK kvs=>obtain⟨z,y,vs,r,ob,es,ep,e,c⟩:=x;exact⟨z,y,vs,r,ob,es,ep,k _ _ (.inl rfl) e,c⟩
|dT kvs=>obtain⟨z,y,xs,r,ob,es,ep,e,c⟩:=x;exact⟨z,y,xs,Paired.mapP r fun p q z=>⟨z.1,ht _ _ z.2.1,z.2.2⟩,ob,es,ep,k _ _ (.inl rfl) e,c⟩
|set S n=>obtain⟨ob,es,ep,t,e,c⟩:=x;exact⟨ob,es,ep,t,k _ _ (.inl rfl) e,c⟩
|ins C dx fs=>obtain⟨d,z,ne,e,mA,⟨od,es,ep,e2,c⟩,r⟩:=x;exact⟨ho _ d,z,ne,k _ _ (.inl rfl) e,mA,⟨od,es,ep,k _ _ (.inr d) e2,c⟩,r⟩
|own y=>obtain⟨ob,e⟩:=x;exact⟨ob,k _ _ (.inl rfl) e⟩
|xd fs=>obtain⟨mA,⟨od,es,ep,e,c⟩,r⟩:=x;exact⟨mA,⟨od,es,ep,k _ _ (.inl rfl) e,c⟩,r⟩
|rng lo hi=>obtain⟨t,u,v,e⟩:=x;exact⟨t,u,v,k _ _ (.inl rfl) e⟩
|frz ob u ih=>obtain⟨e,q⟩:=x;exact⟨k _ _ (.inl rfl) e,ih q⟩
|tbl ps=>have e:h.get? a=some { cls:=.none,data:=.fields ps }:=x;show h'.get? a=some { cls:=.none,data:=.fields ps };exact k a _ (.inl rfl) e
|met f y=>have e:h.get? a=some (W.methodObj (.ref f) (.ref y)):=x;show h'.get? a=some (W.methodObj (.ref f) (.ref y));exact k a _ (.inl rfl) e
|ext φ=>obtain⟨p,⟨o,e⟩,st⟩:=x;exact⟨st _ _ p fun o q=>k _ _ (.inl rfl) q,⟨o,k _ _ (.inl rfl) e⟩,st⟩
def dH.lt(x:dH P w H h)(e:H a=some o):a<h.objs.size:=(x a o e).lt
def dH.fresh(x:dH P w H h)(e:h.objs.size<=a):H a=none:=by cases q:H a with
|none=>rfl
|some u=>exact absurd (F_ (x.lt q) e) (Zw _)
def dH.kept(x:dH P w H h)(k:∀b u,h.get? b=some u->h'.get? b=some u):dH P w H h':=fun a o e=>(x a o e).stay (fun b u _ q=>k b u q) (fun _ q=>q) fun _ _ q=>q
def dH.laid(x:dH P w H h)(k:∀b u,h.get? b=some u->h'.get? b=some u)(hp:h.objs.size<=a)(new:du P w (upd H a o) h' a o):dH P w (upd H a o) h':=fun b u e=>by
 have hn:=x.fresh hp;by_cases hb:b=a
 .subst hb;rw[cQ]at e;cases e;exact new
 .rw[bX hb]at e;exact(x b u e).stay (fun c v _ q=>k c v q) (fun c q=>by rw[bX (mO q hn)];exact q) fun c xs q=>by rw[bX (mO q hn)];exact q
def Rd(H:Hp)(a:Addr)(u:HO):Prop:=H a=some u\/∃o,H a=some (.frz o u)
def Rd.ok{P:C_}{w:N_}{H:Hp}{h:Heap}{a:Addr}{u:HO}(r:Rd H a u)(x:dH P w H h):du P w H h a u:=by
 rcases r with r|⟨o,r⟩
 .exact x a u r
 .obtain⟨_,q⟩:=x a _ r;exact q
def tf:Option HO->Prop
|some (.lst _)=>True
|some (.dK _)=>True
|some (.dT _)=>True
|some (.set _ _)=>True
|some (.ins _ _ _)=>True
|some (.ext _)=>True
|_=>False
section
variable{x e:Addr}{o':HO}
def dH.write(ok:dH P w H h)(mu:tf (H x))(he:e=x\/H e=some (.own x))(k:∀b u,b≠e->h.get? b=some u->h'.get? b=some u)(Z:∃u,h'.get? e=some u)(new:du P w (upd H x o') h' x o'):dH P w (upd H x o') h':=fun b u q=>by
 have U:∀c y,H c=some (.own y)->c≠x:=fun c y r z=>by subst z;rw[r]at mu;exact mu
 have Y:∀c xs,H c=some (.tup xs)->c≠x:=fun c xs r z=>by subst z;rw[r]at mu;exact mu
 by_cases hb:b=x
 .subst hb;rw[cQ]at q;cases q;exact new
 .rw[bX hb]at q;by_cases hbe:b=e
  .have q':H b=some (.own x):=by
    rcases he with z|z
    .exact absurd (hbe.trans z) hb
    .rw[hbe];exact z
   rw[q]at q';cases q';obtain⟨v,hv⟩:=Z;exact⟨v,by rw[hbe];exact hv⟩
  .refine(ok b u q).stay (fun c v hc r=>k c v ?_ r) (fun c r=>by rw[bX (U c b r)];exact r) fun c xs r=>by rw[bX (Y c xs r)];exact r
   rcases hc with rfl|hc
   .exact hbe
   .rintro rfl
    rcases he with z|z
    .exact U c b hc z
    .rw[hc]at z;cases z;exact hb rfl
end
structure Un(fs ex:List Addr)(H H':Hp)(h h':Heap):Prop where
 keep:∀b o,h.get? b=some o->H b=none->b∉fs->b∉ex->h'.get? b=some o
 slot:∀b o,h.get? b=some o->H b=none->b∈fs->b∉ex->∃sl,h'.get? b=some { o with slots:=sl }
 free:∀b o,h.get? b=some o->H b=none->b∉ex->H' b=none
 there:∀b o,h.get? b=some o->b∉ex->∃o',h'.get? b=some o'
 tups:∀b xs,H b=some (.tup xs)->H' b=some (.tup xs)
 frzs:∀b o u,H b=some (.frz o u)->H' b=some (.frz o u)
 tbls:∀b ps,H b=some (.tbl ps)->∃more,H' b=some (.tbl (ps++more))
section
variable{fs fs' ex ex':List Addr}{H1 H2:Hp}{h1 h2:Heap}{x e:Addr}
def Un.any(u:Un fs ex H H1 h h1){b:Addr}{ob:Obj}(q:h.get? b=some ob)(n:H b=none)(hx:b∉ex):∃sl,h1.get? b=some { ob with slots:=sl }:=by
 by_cases hb:b∈fs
 .exact u.slot b ob q n hb hx
 .exact⟨ob.slots,u.keep b ob q n hb hx⟩
def Un.kept(k:∀b u,h.get? b=some u->h'.get? b=some u):Un fs ex H H h h':=⟨fun b ob q _ _ _=>k b ob q,fun b ob q _ _ _=>⟨ob.slots,k b ob q⟩,fun _ _ _ n _=>n,fun b ob q _=>⟨ob,k b ob q⟩,fun _ _ q=>q,fun _ _ _ q=>q,fun _ ps q=>⟨#[],by rw[q];simp⟩⟩
def Un.refl:Un fs ex H H h h:=Un.kept fun _ _ q=>q
def Un.laid(k:∀b u,h.get? b=some u->h'.get? b=some u)(hp:h.objs.size<=a)(hn:H a=none):Un fs ex H (upd H a o) h h' where
 keep:=fun b u q _ _ _=>k b u q
 slot:=fun b u q _ _ _=>⟨u.slots,k b u q⟩
 free:=fun b u q n _=>by rw[bX (G_ (F_ (z_ q) hp))];exact n
 there:=fun b u q _=>⟨u,k b u q⟩
 tups:=fun b xs q=>by rw[bX (mO q hn)];exact q
 frzs:=fun b u xs q=>by rw[bX (mO q hn)];exact q
 tbls:=fun b ps q=>⟨#[],by rw[bX (mO q hn),q];simp⟩
def Un.write(mu:tf (H x))(he:e=x\/H e=some (.own x))(k:∀b u,b≠e->h.get? b=some u->h'.get? b=some u)(U:∃u,h'.get? e=some u):Un fs ex H (upd H x o) h h':=by
 have hx:∀b,H b=none->b≠x:=fun b n z=>by subst z;rw[n]at mu;exact mu
 have hb:∀b,H b=none->b≠e:=fun b n z=>by
  subst z;rcases he with r|r
  .exact hx b n r
  .rw[n]at r;cases r
 have hm:∀b u,H b=some u->¬ tf (some u)->b≠x:=fun b u q nm z=>by subst z;rw[q]at mu;exact nm mu
 refine⟨fun b u q n _ _=>k b u (hb b n) q,fun b u q n _ _=>⟨u.slots,k b u (hb b n) q⟩,fun b u q n _=>by rw[bX (hx b n)];exact n,fun b u q _=>?_,fun b xs q=>by rw[bX (hm b _ q fun z=>z)];exact q,fun b u xs q=>by rw[bX (hm b _ q fun z=>z)];exact q,fun b ps q=>⟨#[],by rw[bX (hm b _ q fun z=>z),q];simp⟩⟩;by_cases hbe:b=e
 .subst hbe;exact U
 .exact⟨u,k b u hbe q⟩
end
def trk(h:Heap)(H:Hp):List Addr:=(g_ h.objs.size).filter fun a=>(H a).isSome
def gK(h:Heap)(H:Hp):Heap:=W.hideAll h (trk h H)
def Rc(h:Heap)(H:Hp):(gK h H).objs.size=h.objs.size:=W.hideAll_size _ _
def QX{h:Heap}{H:Hp}{b:Addr}{o:Obj}(e:h.get? b=some o)(n:H b=none):(gK h H).get? b=some o:=W.hideAll_get _ e fun hm=>by have q:(H b).isSome=true:=(Z7.mp hm).2;rw[n]at q;simp at q
def Os{h:Heap}{H:Hp}{b:Addr}{o:Obj}(e:(gK h H).get? b=some o):h.get? b=some o/\H b=none:=by have e':h.get? b=some o:=W.of_hideAll (trk h H) e;refine⟨e',?_⟩;cases q:H b with
|none=>rfl
|some x=>have hm:b∈trk h H:=Z7.mpr ⟨s_.mpr (z_ e'),by simp[q]⟩;have z:(gK h H).get? b=none:=W.hideAll_none (trk h H) hm;rw[z]at e;cases e
def OZ(g h:Heap)(L:Addr):List (Addr×Obj):=(g_ h.objs.size).filterMap fun a=>if a=L\/(g.get? a).isSome=true then none else(h.get? a).map fun o=>(a,o)
def rest(g h:Heap)(L d:Addr):List (Addr×Obj):=(OZ g h L).filter fun p=>decide (p.1≠d)
structure Mod(K:W.Frag)(mg:Str->Option Value)(base:Heap):Prop where
 kin:K.In base
 glob:base.Ns K_ mg
 blt:∃mb,base.Ns Qed mb/\∀x:Str,x≠"__name__"->mb x=QaS x
 nolimit:base.NoLimit
structure Cx where
 prog:C_
 w:N_
 K:W.Frag
 mg:Str->Option Value
 base:Heap
 A:W_
 N:List Str
 s₀:h_
 H₀:Hp
 env:Env
 outer:List Env
 stack:List Env
 ex:List Addr
 fn:Str->Bool
 calm:Bool
 pn:List (Addr×Obj)
 xe:Value->h_->Prop
def dJ(l:List Env):List Addr:=l.filterMap (·.frame)
abbrev Cx.fs(X:Cx):List Addr:=dJ X.outer
def gA(sc:Qa1)(x:Str):Prop:=sc.names.lookup x=some .local\/sc.names.lookup x=some .cell\/sc.names.lookup x=some .free
def iN(sc:Qa1)(x:Str):Prop:=sc.names.lookup x=some .local\/sc.names.lookup x=some .cell
def dg{sc:Qa1}{x:Str}(h:(match sc.names.lookup x with|some .local=>true|some .cell=>true|some .free=>true|_=>false)=true):gA sc x:=by
 revert h;unfold gA;split<;>intro h
 .exact .inl (by assumption)
 .exact .inr (.inl (by assumption))
 .exact .inr (.inr (by assumption))
 .cases h
def EV(env:Env)(h:Heap)(m:Str->Option Value)(x:Str)(u:Value):Prop:=(env.kindOf x=some .local/\m x=some u)\/((env.kindOf x=some .cell\/env.kindOf x=some .free)/\∃c,env.cells.lookup x=some c/\h.IsCell c (some u))
structure Cx.Ok(X:Cx):Prop where
 mod:Mod X.K X.mg X.base
 kind:X.env.scope.kind=.function
 glob:X.env.globals=K_
 blt:X.env.builtins=Qed
 above:X.s₀.heap.objs.size<=X.env.locals
 inj:∀x y c,X.env.cells.lookup x=some c->X.env.cells.lookup y=some c->x=y
 has:∀x,(X.env.kindOf x=some .cell\/X.env.kindOf x=some .free)->∃c,X.env.cells.lookup x=some c
 cab:∀x c,X.fn x=true->X.env.cells.lookup x=some c->X.s₀.heap.objs.size<=c
 hd:X.calm=true->X.A.handled=none
 frames:X.A.frames=some X.stack
 stk:X.stack=X.outer\/(X.stack=X.env::X.outer/\X.env.frame=some X.env.locals)
 exf:∀b∈X.ex,b≠X.env.locals/\∀x c,X.env.cells.lookup x=some c->c≠b
 bs:∀b o,X.base.get? b=some o->X.s₀.heap.get? b=some o/\X.H₀ b=none
 bsz:X.base.objs.size<=X.s₀.heap.objs.size
 noex:∀b o,X.base.get? b=some o->b∉X.ex
 exfs:∀b∈X.ex,b∉X.fs
 funs:X.s₀.heap.FunFrames X.base X.outer
 frf:∀b∈X.fs,X.H₀ b=none
structure Inv(X:Cx)(pz:List (Addr×Obj))(σ:List (Option V))(H:Hp)(s:h_):Prop where
 ok:X.Ok
 os:s.os=X.s₀.os
 bare:Qbf s.gens
 base:Un X.fs X.ex X.H₀ H X.s₀.heap s.heap
 loc:∃m,s.heap.Ns X.env.locals m/\∀(i:Nat)(x:Str)(v:V),X.N[i]? = some x->σ[i]? = some (some v)->gA X.env.scope x->∃u,aS v u/\EV X.env s.heap m x u
 cell:∀x c,X.env.cells.lookup x=some c->∃v,s.heap.IsCell c v
 free:H X.env.locals=none
 freeC:∀x c,X.env.cells.lookup x=some c->H c=none
 pin:∀p∈X.pn++pz,s.heap.get? p.1=some p.2/\H p.1=none/\p.1≠X.env.locals/\p.1∉X.fs/\∀v,p.2.data≠.cell v
 hok:dH X.prog X.w H s.heap
 len:σ.length=X.N.length
variable{X:Cx}{pz:List (Addr×Obj)}{s:h_}
section
variable{σ:List (Option V)}
def Cx.Ok.nofr(ok:X.Ok){b:Addr}{o:Obj}(e:X.base.get? b=some o):b∉X.fs:=fun hb=>by have:=(ok.funs.mem hb).1;rw[e]at this;cases this
def Inv.bs(I:Inv X pz σ H s):∀b o,X.base.get? b=some o->s.heap.get? b=some o/\H b=none:=fun b o e=>⟨I.base.keep b o (I.ok.bs b o e).1 (I.ok.bs b o e).2 (I.ok.nofr e) (I.ok.noex b o e),I.base.free b o (I.ok.bs b o e).1 (I.ok.bs b o e).2 (I.ok.noex b o e)⟩
def Inv.bk(I:Inv X pz σ H s):∀b o,X.base.get? b=some o->s.heap.get? b=some o:=fun b o e=>(I.bs b o e).1
def Inv.mod(I:Inv X pz σ H s):Mod X.K X.mg X.base:=I.ok.mod
def Inv.kIn(I:Inv X pz σ H s):X.K.In s.heap:=I.ok.mod.kin.keeps I.bk
def Inv.lt(I:Inv X pz σ H s):X.env.locals<s.heap.objs.size:=let⟨_,hn,_⟩:=I.loc;hn.lt
def Inv.sz(I:Inv X pz σ H s):X.s₀.heap.objs.size<=s.heap.objs.size:=Y8 I.ok.above (Qdo I.lt)
def Inv.nofs(I:Inv X pz σ H s){a:Addr}(h:s.heap.objs.size<=a):a∉X.fs:=fun hb=>by obtain⟨_,o,ho,_⟩:=I.ok.funs.mem hb;exact absurd (F_ (z_ ho) (Y8 I.sz h)) (Zw _)
def Inv.cne(I:Inv X pz σ H s):∀x c,X.env.cells.lookup x=some c->c≠X.env.locals:=fun x c e z=>by obtain⟨v,o,ho,hd⟩:=I.cell x c e;obtain⟨m,⟨o',es,ep,ho',U,_⟩,_⟩:=I.loc;rw[z,ho']at ho;cases ho;rw[U]at hd;cases hd
def Inv.funs(I:Inv X pz σ H s):s.heap.FunFrames X.base X.outer:=by
 have all:∀(l:List Env),(∀b∈dJ l,b∈X.fs)->X.s₀.heap.FunFrames X.base l->s.heap.FunFrames X.base l:=by
  intro l
  induction l with
 |nil=>intro _ _;trivial
 |cons env r ih=>intro hs hl;obtain⟨hk,⟨L,o,hf,hn,ho,hd⟩,hr⟩:=hl;have hL:L∈X.fs:=hs L (by unfold dJ;rw[Z9,hf];exact r_);obtain⟨sl,e⟩:=I.base.slot L o ho (I.ok.frf L hL) hL fun z=>I.ok.exfs L z hL;exact⟨hk,⟨L,_,hf,hn,e,hd⟩,ih (fun b hb=>hs b (by unfold dJ;rw[Z9,hf];exact m_ _ hb)) hr⟩
 exact all X.outer (fun _ hb=>hb) I.ok.funs
def Inv.stack(I:Inv X pz σ H s):s.heap.FunFrames X.base X.stack:=by
 rcases I.ok.stk with e|⟨e,hf⟩
 .rw[e];exact I.funs
 .rw[e];obtain⟨m,hn,_⟩:=I.loc;refine .cons (by rw[I.ok.kind];decide) hf hn ?_ I.funs;exact QaN (Y8 I.ok.bsz I.ok.above)
def Inv.stkSub(I:Inv X pz σ H s):∀b∈dJ X.stack,b∈X.env.locals::X.fs:=fun b hb=>by
 rcases I.ok.stk with e|⟨e,hf⟩
 .rw[e]at hb;exact m_ _ hb
 .rw[e]at hb;unfold dJ at hb;rw[Z9,hf]at hb;exact hb
def Inv.stkFree(I:Inv X pz σ H s):∀b∈dJ X.stack,H b=none:=fun b hb=>by
 rcases e_.mp (I.stkSub b hb)with e|hb
 .rw[e];exact I.free
 .obtain⟨_,o,ho,_⟩:=I.ok.funs.mem hb;exact I.base.free b o ho (I.ok.frf b hb) fun z=>I.ok.exfs b z hb
def Inv.step{g':Array Qdp}{t':Nat}{d':Drawn}{ch:List Addr}(I:Inv X pz σ H s)(U:∀b∈ch,(b∈X.ex\/X.s₀.heap.objs.size<=b)/\b≠X.env.locals/\(∀x c,X.env.cells.lookup x=some c->c≠b)/\∀p∈X.pn++pz,p.1≠b)(keep:∀b o,b≠X.env.locals->b∉X.fs->b∉ch->s.heap.get? b=some o->H b=none->h'.get? b=some o)(slot:∀b o,b≠X.env.locals->b∈X.fs->b∉ch->s.heap.get? b=some o->H b=none->∃sl,h'.get? b=some { o with slots:=sl })(free:∀b o,b∉ch->s.heap.get? b=some o->H b=none->H' b=none)(there:∀b o,b∉ch->s.heap.get? b=some o->∃o',h'.get? b=some o')(tups:∀b xs,H b=some (.tup xs)->H' b=some (.tup xs))(frzs:∀b o u,H b=some (.frz o u)->H' b=some (.frz o u))(tbls:∀b ps,H b=some (.tbl ps)->∃more,H' b=some (.tbl (ps++more)))(ns:∀m,s.heap.Ns X.env.locals m->h'.Ns X.env.locals m)(hok:dH X.prog X.w H' h')(hg:Qbf g'):Inv X pz σ H' { s with heap:=h',gens:=g',drawn:=d',toks:=t' }:=by
 have BT:∀b o,X.s₀.heap.get? b=some o->b≠X.env.locals:=fun b o e=>G_ (F_ (z_ e) I.ok.above);have Z:∀b o,X.s₀.heap.get? b=some o->b∉X.ex->b∉ch:=fun b o e hx hb=>by
  rcases(U b hb).1 with z|z
  .exact hx z
  .exact absurd (F_ (z_ e) z) (Zw _)
 have ld:∀x c,X.env.cells.lookup x=some c->∀v,s.heap.IsCell c v->h'.IsCell c v:=fun x c e v ⟨o,ho,hd⟩=>by
  have Y:c∉ch:=fun z=>(U c z).2.2.1 x c e rfl;by_cases hc:c∈X.fs
  .obtain⟨sl,q⟩:=slot c o (I.cne x c e) hc Y ho (I.freeC x c e);exact⟨_,q,hd⟩
  .exact⟨o,keep c o (I.cne x c e) hc Y ho (I.freeC x c e),hd⟩
 refine⟨I.ok,I.os,hg,⟨fun b o e n hb hx=>?_,fun b o e n hb hx=>?_,fun b o e n hx=>?_,fun b o e hx=>?_,fun b xs e=>tups b xs (I.base.tups b xs e),fun b o xs e=>frzs b o xs (I.base.frzs b o xs e),fun b ps e=>?_⟩,?_,fun x c e=>?_,?_,fun x c e=>?_,fun p hp=>?_,hok,I.len⟩
 .exact keep b o (BT b o e) hb (Z b o e hx) (I.base.keep b o e n hb hx) (I.base.free b o e n hx)
 .obtain⟨sl,e1⟩:=I.base.slot b o e n hb hx;obtain⟨Cl,e2⟩:=slot b _ (BT b o e) hb (Z b o e hx) e1 (I.base.free b o e n hx);exact⟨Cl,e2⟩
 .obtain⟨o',e1⟩:=I.base.there b o e hx;exact free b o' (Z b o e hx) e1 (I.base.free b o e n hx)
 .obtain⟨o',e1⟩:=I.base.there b o e hx;exact there b o' (Z b o e hx) e1
 .obtain⟨m1,e1⟩:=I.base.tbls b ps e;obtain⟨m2,e2⟩:=tbls b _ e1;exact⟨m1++m2,by rw[e2,Array.append_assoc]⟩
 .obtain⟨m,hn,hl⟩:=I.loc;refine⟨m,ns m hn,fun i x v e1 e2 e3=>?_⟩;obtain⟨u,r,l⟩:=hl i x v e1 e2 e3;refine⟨u,r,?_⟩;rcases l with l|⟨k,c,e,z⟩
  .exact .inl l
  .exact .inr ⟨k,c,e,ld x c e _ z⟩
 .obtain⟨v,z⟩:=I.cell x c e;exact⟨v,ld x c e v z⟩
 .obtain⟨m,⟨o,_,_,ho,_⟩,_⟩:=I.loc;exact free _ o (fun z=>(U _ z).2.1 rfl) ho I.free
 .obtain⟨v,o,ho,hd⟩:=I.cell x c e;exact free c o (fun z=>(U c z).2.2.1 x c e rfl) ho (I.freeC x c e)
 .obtain⟨e,n,ne,nf,d⟩:=I.pin p hp;have Y:p.1∉ch:=fun z=>(U p.1 z).2.2.2 p hp rfl;exact⟨keep p.1 p.2 ne nf Y e n,free p.1 p.2 Y e n,ne,nf,d⟩
def Inv.un{t':Nat}(I:Inv X pz σ H s)(u:Un X.fs [] H H' s.heap h')(hok:dH X.prog X.w H' h'):Inv X pz σ H' { s with heap:=h',toks:=t' }:=by obtain⟨m,⟨o,es,ep,ho,r⟩,_⟩:=id I.loc;obtain⟨sl,hL⟩:=u.any ho I.free (by simp);exact I.step (g':=s.gens) (d':=s.drawn) (ch:=[]) (fun _ z=>nomatch z) (fun b o _ hb _ e n=>u.keep b o e n hb (by simp)) (fun b o _ hb _ e n=>u.slot b o e n hb (by simp)) (fun b o _ e n=>u.free b o e n (by simp)) (fun b o _ e=>u.there b o e (by simp)) u.tups u.frzs u.tbls (fun m' hm=>by obtain⟨o',es',U,ho',r'⟩:=hm;rw[ho]at ho';cases ho';exact⟨_,es',U,hL,r'⟩) hok I.bare
def Inv.call{g':Array Qdp}{t':Nat}{d':Drawn}{ch:List Addr}(I:Inv X pz σ H s)(u:Un (dJ X.stack) ch H H' s.heap h')(hok:dH X.prog X.w H' h')(hg:Qbf g')(U:∀b∈ch,(b∈X.ex\/X.s₀.heap.objs.size<=b)/\b≠X.env.locals/\(∀x c,X.env.cells.lookup x=some c->c≠b)/\∀p∈X.pn++pz,p.1≠b):Inv X pz σ H' { s with heap:=h',gens:=g',drawn:=d',toks:=t' }:=by obtain⟨m,⟨o,es,ep,ho,r⟩,_⟩:=id I.loc;obtain⟨sl,hL⟩:=u.any ho I.free fun z=>(U _ z).2.1 rfl;exact I.step (ch:=ch) U (fun b o hL hb hc e n=>u.keep b o e n (fun z=>(e_.mp (I.stkSub b z)).elim hL hb) hc) (fun b o _ _ hc e n=>u.any e n hc) (fun b o hc e n=>u.free b o e n hc) (fun b o hc e=>u.there b o e hc) u.tups u.frzs u.tbls (fun m' hm=>by obtain⟨o',es',Y,ho',r'⟩:=hm;rw[ho]at ho';cases ho';exact⟨_,es',Y,hL,r'⟩) hok hg
def Inv.turned{t':Nat}{it:Addr}(I:Inv X pz σ H s)(k:∀b o,b≠it->s.heap.get? b=some o->h'.get? b=some o)(hn:H it=none)(hL:it≠X.env.locals)(h1:it∈X.ex\/X.s₀.heap.objs.size<=it)(h2:∀x c,X.env.cells.lookup x=some c->c≠it)(h3:∀p∈X.pn++pz,p.1≠it):Inv X pz σ H { s with heap:=h',toks:=t' }:=by
 have U:∀b u,H b=some u->b≠it:=fun b u e z=>by rw[z,hn]at e;cases e
 refine I.step (g':=s.gens) (d':=s.drawn) (ch:=[it]) (fun b hb=>?_) (fun b o _ _ hc e _=>k b o (fun z=>hc (by simp[z])) e) (fun b o _ _ hc e _=>⟨o.slots,k b o (fun z=>hc (by simp[z])) e⟩) (fun _ _ _ _ n=>n)
  (fun b o hc e=>⟨o,k b o (fun z=>hc (by simp[z])) e⟩) (fun _ _ e=>e) (fun _ _ _ e=>e) (fun b ps e=>⟨#[],by rw[e];simp⟩) (fun m hm=>?_) (fun b u e=>?_) I.bare
 .have e:b=it:=by simpa using hb
  subst e;exact⟨h1,hL,h2,h3⟩
 .obtain⟨o,es,ep,ho,r⟩:=hm;exact⟨o,es,ep,k _ o (ZP hL) ho,r⟩
 .refine(I.hok b u e).stay (fun c v hc q=>k c v ?_ q) (fun _ q=>q) fun _ _ q=>q;rcases hc with z|z
  .rw[z];exact U b u e
  .exact U c _ z
def Inv.tok(I:Inv X pz σ H s)(t:Nat):Inv X pz σ H { s with toks:=t }:=I.un (h':=s.heap) (t':=t) Un.refl I.hok
def Inv.kept{t':Nat}(I:Inv X pz σ H s)(k:∀b u,s.heap.get? b=some u->h'.get? b=some u):Inv X pz σ H { s with heap:=h',toks:=t' }:=I.un (Un.kept k) (I.hok.kept k)
def Inv.laid{a:Addr}{o:HO}{t':Nat}(I:Inv X pz σ H s)(k:∀b u,s.heap.get? b=some u->h'.get? b=some u)(hp:s.heap.objs.size<=a)(new:du X.prog X.w (upd H a o) h' a o):Inv X pz σ (upd H a o) { s with heap:=h',toks:=t' }:=I.un (Un.laid k hp (I.hok.fresh hp)) (I.hok.laid k hp new)
def Inv.write{x e:Addr}{o:HO}{t':Nat}(I:Inv X pz σ H s)(mu:tf (H x))(he:e=x\/H e=some (.own x))(k:∀b u,b≠e->s.heap.get? b=some u->h'.get? b=some u)(z:∃u,h'.get? e=some u)(new:du X.prog X.w (upd H x o) h' x o):Inv X pz σ (upd H x o) { s with heap:=h',toks:=t' }:=I.un (Un.write mu he k z) (I.hok.write mu he k z new)
def Inv.pins_of{pins':List (Addr×Obj)}(I:Inv X pz σ H s)(h:∀p∈pins',s.heap.get? p.1=some p.2/\H p.1=none/\p.1≠X.env.locals/\p.1∉X.fs/\∀v,p.2.data≠.cell v):Inv X pins' σ H s:=⟨I.ok,I.os,I.bare,I.base,I.loc,I.cell,I.free,I.freeC,fun p hp=>(QaE.mp hp).elim (fun z=>I.pin p (QaO _ z)) (h p),I.hok,I.len⟩
def Iw{N:List Str}(hN:N.Nodup){i j:Nat}{x:Str}(a:N[i]? = some x)(b:N[j]? = some x):i=j:=by obtain⟨h1,e1⟩:=i_.mp a;obtain⟨h2,e2⟩:=i_.mp b;exact(List.getElem_inj hN).mp (e1.trans e2.symm)
def BP{M:Qee}{A:W_}{E:Value->h_->Prop}{i:Nat}{x:Str}{v:V}{u:Value}{Q:Unit->h_->Prop}(I:Inv X pz σ H s)(hN:X.N.Nodup)(hi:X.N[i]? = some x)(hx:iN X.env.scope x)(r:aS v u)(h:∀s',Inv X pz (σ.set i (some v)) H s'->(∃a,Qbg a s.heap s'.heap/\(a=X.env.locals\/X.env.cells.lookup x=some a))->Q () s')(hf:X.fn x=true\/X.env.scope.names.lookup x=some .local:=by first|exact .inl rfl|exact .inr rfl|assumption):w_ M A (storeName X.env x u) Q E s:=by
 obtain⟨m,hn,hl⟩:=id I.loc;have Id:(X.env.scope.kind==.class || (X.env.scope.kind==.module&&X.env.locals != X.env.globals))=false:=by rw[I.ok.kind];rfl
 have Z:i<σ.length:=by rw[I.len];exact(i_.mp hi).1
 have cne:=I.cne;have U:∀{a:Addr}{h':Heap},(∃o,s.heap.get? a=some o/\H a=none)->Qbg a s.heap h'->dH X.prog X.w H h':=fun{a h'} ha hs b ob e=>by
  obtain⟨_,_,Y⟩:=ha;refine(I.hok b ob e).stay (fun c w' hc q=>(hs.2 c ?_).trans q) (fun _ q=>q) fun _ _ q=>q
  rintro rfl
  rcases hc with rfl|hc
  .rw[Y]at e;cases e
  .rw[Y]at hc;cases hc
 rcases hx with hk|hk
 .refine wpAny_storeName_local hk hn (fun h' hn' hs=>?_) Id;obtain⟨oL,_,_,IO,_⟩:=id hn;refine h _ ⟨I.ok,I.os,I.bare,⟨fun b o e n hb hx=>?_,fun b o e n hb hx=>?_,I.base.free,fun b o e hx=>?_,I.base.tups,I.base.frzs,I.base.tbls⟩,⟨_,hn',fun j y v' e1 e2 e3=>?_⟩,fun y c e=>?_,I.free,I.freeC,fun p hp=>?_,U ⟨oL,IO,I.free⟩ hs,by simpa using I.len⟩ ⟨_,hs,.inl rfl⟩
  .exact(hs.2 b (G_ (F_ (z_ e) I.ok.above))).trans (I.base.keep b o e n hb hx)
  .obtain⟨sl,e1⟩:=I.base.slot b o e n hb hx;exact⟨sl,(hs.2 b (G_ (F_ (z_ e) I.ok.above))).trans e1⟩
  .obtain⟨o',e1⟩:=I.base.there b o e hx;exact⟨o',(hs.2 b (G_ (F_ (z_ e) I.ok.above))).trans e1⟩
  .by_cases hj:j=i
   .subst hj;rw[hi]at e1;cases e1;rw[j_ Z]at e2;cases e2;exact⟨u,r,.inl ⟨hk,by simp⟩⟩
   .rw[b_ (ZP hj)]at e2;obtain⟨u',r',q⟩:=hl j y v' e1 e2 e3;refine⟨u',r',?_⟩;rcases q with⟨k,e⟩|⟨k,c,e,z⟩
    .refine .inl ⟨k,?_⟩;have:y≠x:=fun e=>hj (Iw hN e1 (e▸hi));simp[this,e]
    .exact .inr ⟨k,c,e,z.sameBut hs (cne y c e)⟩
  .obtain⟨w',z⟩:=I.cell y c e;exact⟨w',z.sameBut hs (cne y c e)⟩
  .obtain⟨e,n,ne,nf,d⟩:=I.pin p hp;exact⟨(hs.2 p.1 ne).trans e,n,ne,nf,d⟩
 .have hfn:X.fn x=true:=by
   rcases hf with z|z
   .exact z
   .rw[z]at hk;cases hk
  obtain⟨c,hc⟩:=I.ok.has x (.inl hk);obtain⟨w',z⟩:=I.cell x c hc;refine wpAny_storeName_cell I.ok.kind hk hc z (fun h' ld hs=>?_);obtain⟨oc,BT,Cl⟩:=id z;refine h { s with heap:=h' } ⟨I.ok,I.os,I.bare,⟨fun b o e n hb hx=>?_,fun b o e n hb hx=>?_,I.base.free,fun b o e hx=>?_,I.base.tups,I.base.frzs,I.base.tbls⟩,⟨m,hn.sameBut hs (ZP (cne x c hc)),fun j y v' e1 e2 e3=>?_⟩,fun y c' e=>?_,I.free,I.freeC,fun p hp=>?_,U ⟨oc,BT,I.freeC x c hc⟩ hs,by simpa using I.len⟩ ⟨c,hs,.inr hc⟩
  .exact(hs.2 b (G_ (F_ (z_ e) (I.ok.cab x c hfn hc)))).trans (I.base.keep b o e n hb hx)
  .obtain⟨sl,e1⟩:=I.base.slot b o e n hb hx;exact⟨sl,(hs.2 b (G_ (F_ (z_ e) (I.ok.cab x c hfn hc)))).trans e1⟩
  .obtain⟨o',e1⟩:=I.base.there b o e hx;exact⟨o',(hs.2 b (G_ (F_ (z_ e) (I.ok.cab x c hfn hc)))).trans e1⟩
  .by_cases hj:j=i
   .subst hj;rw[hi]at e1;cases e1;rw[j_ Z]at e2;cases e2;exact⟨u,r,.inr ⟨.inl hk,c,hc,ld⟩⟩
   .rw[b_ (ZP hj)]at e2;obtain⟨u',r',q⟩:=hl j y v' e1 e2 e3;refine⟨u',r',?_⟩;rcases q with q|⟨k,c',e,z'⟩
    .exact .inl q
    .refine .inr ⟨k,c',e,z'.sameBut hs ?_⟩
     rintro rfl
     exact hj (Iw hN e1 (I.ok.inj _ _ _ e hc▸hi))
  .by_cases hcc:c'=c
   .subst hcc;exact⟨_,ld⟩
   .obtain⟨w2,z2⟩:=I.cell y c' e;exact⟨w2,z2.sameBut hs hcc⟩
  .obtain⟨e,n,ne,nf,d⟩:=I.pin p hp;refine⟨(hs.2 p.1 ?_).trans e,n,ne,nf,d⟩;intro q;rw[q,BT]at e;have q':oc=p.2:=E_ e;exact d w' (by rw[<-q'];exact Cl)
def IK{M:Qee}{A:W_}{E:Value->h_->Prop}{i:Nat}{x:Str}{v:V}{u:Value}{Q:Unit->h_->Prop}(I:Inv X pz σ H s)(hN:X.N.Nodup)(hi:X.N[i]? = some x)(hx:iN X.env.scope x)(r:aS v u)(h:∀s',Inv X pz (σ.set i (some v)) H s'->Q () s')(hf:X.fn x=true\/X.env.scope.names.lookup x=some .local:=by first|exact .inl rfl|exact .inr rfl|assumption):w_ M A (storeName X.env x u) Q E s:=BP I hN hi hx r (fun s' I' _=>h s' I') hf
def Inv.call'{s':h_}{ch:List Addr}(I:Inv X pz σ H s)(ho:s'.os=s.os)(u:Un (dJ X.stack) ch H H' s.heap s'.heap)(hok:dH X.prog X.w H' s'.heap)(hg:Qbf s'.gens)(z:∀b∈ch,(b∈X.ex\/X.s₀.heap.objs.size<=b)/\b≠X.env.locals/\(∀x c,X.env.cells.lookup x=some c->c≠b)/\∀p∈X.pn++pz,p.1≠b):Inv X pz σ H' s':=by obtain⟨h',g',d',t',o'⟩:=s';have e:o'=s.os:=ho;subst e;exact I.call (g':=g') (t':=t') (d':=d') u hok hg z
end
abbrev XK:=Value->Option Addr->Hp->Prop
abbrev St:=List (Option V)
abbrev VK:=V->Hp->Prop
abbrev TE:=St->Hp->VK->Prop
abbrev TT:=St->Hp->(Bool->Hp->Prop)->Prop
abbrev TA:=St->Hp->(List V->Hp->Prop)->Prop
structure Ends where
 nx:St->Hp->Prop
 rt:VK
 bk:St->Hp->Prop:=fun _ _=>False
 ct:St->Hp->Prop:=fun _ _=>False
abbrev TS:=Ends->St->Hp->Prop
def EP(X:Cx)(pz:List (Addr×Obj))(σ:St)(Q:VK)(u:Value)(s':h_):Prop:=∃v H',Inv X pz σ H' s'/\aS v u/\Q v H'
def TP(X:Cx)(pz:List (Addr×Obj))(σ:St)(Q:Bool->Hp->Prop)(b:Bool)(s':h_):Prop:=∃H',Inv X pz σ H' s'/\Q b H'
def AP(X:Cx)(pz:List (Addr×Obj))(σ:St)(Q:List V->Hp->Prop)(us:List Value)(s':h_):Prop:=∃vs H',Inv X pz σ H' s'/\aN vs us/\Q vs H'
def SP(X:Cx)(pz:List (Addr×Obj))(D:Ends)(f:Flow)(s':h_):Prop:=match f with
|.next=>∃σ' H',Inv X pz σ' H' s'/\D.nx σ' H'
|.brk=>∃σ' H',Inv X pz σ' H' s'/\D.bk σ' H'
|.cont=>∃σ' H',Inv X pz σ' H' s'/\D.ct σ' H'
|.ret u=>∃v σ' H',Inv X pz σ' H' s'/\aS v u/\D.rt v H'
def PE(X:Cx)(e:Expr)(t:TE):Prop:=∀(pz:List (Addr×Obj))(s:h_)(σ:St)(H:Hp)(Q:VK),Inv X pz σ H s->t σ H Q->w_ (B_ X.prog X.w) X.A (eval e X.env) (EP X pz σ Q) X.xe s
def PT(X:Cx)(e:Expr)(t:TT):Prop:=∀(pz:List (Addr×Obj))(s:h_)(σ:St)(H:Hp)(Q:Bool->Hp->Prop),Inv X pz σ H s->t σ H Q->w_ (B_ X.prog X.w) X.A (isTrue e X.env (eval e X.env)) (TP X pz σ Q) X.xe s
def PW(X:Cx)(e:Expr)(t:TT):Prop:=∀(whole:Sem Value)(pz:List (Addr×Obj))(s:h_)(σ:St)(H:Hp)(Q:Bool->Hp->Prop),Inv X pz σ H s->t σ H Q->w_ (B_ X.prog X.w) X.A (isTrue e X.env whole) (TP X pz σ Q) X.xe s
def PW.pt{X:Cx}{e:Expr}{t:TT}(h:PW X e t):PT X e t:=h _
def PA(X:Cx)(es:List Expr)(t:TA):Prop:=∀(pos:Pos)(pz:List (Addr×Obj))(s:h_)(σ:St)(H:Hp)(Q:List V->Hp->Prop),Inv X pz σ H s->t σ H Q->w_ (B_ X.prog X.w) X.A (spliced (backTo pos (f_ es X.env))) (AP X pz σ Q) X.xe s
def PS(X:Cx)(st:Stmt)(t:TS):Prop:=∀(pz:List (Addr×Obj))(s:h_)(σ:St)(H:Hp)(D:Ends),Inv X pz σ H s->t D σ H->w_ (B_ X.prog X.w) X.A (exec st X.env) (SP X pz D) X.xe s
def dq(X:Cx)(st:List Stmt)(t:TS):Prop:=∀(pz:List (Addr×Obj))(s:h_)(σ:St)(H:Hp)(D:Ends),Inv X pz σ H s->t D σ H->w_ (B_ X.prog X.w) X.A (execs st X.env) (SP X pz D) X.xe s
def bL{α:Type}{t:Sem α}{Q Q':α->h_->Prop}{M:Qee}{A:W_}{E:Value->h_->Prop}{s:h_}(h:w_ M A t Q E s)(hQ:∀a s,Q a s->Q' a s):w_ M A t Q' E s:=Y7 h hQ fun _ _ x=>x
variable{b:Expr}{ta tb:TE}{pos:Pos}
section
def kJ(i:Nat):TE:=fun σ H Q=>∃v,σ[i]? = some (some v)/\Q v H
def tC(v:V):TE:=fun _ H Q=>Q v H
def gP{i:Nat}{x:Str}{pos:Pos}(hN:X.N[i]? = some x)(hv:gA X.env.scope x)(hd:(x==("__debug__" : Str))=false:=by decide)(z:(x==("__classdict__" : Str))=false:=by decide):PE X (.Name x pos) (kJ i):=by
 intro pz s σ H Q I h;obtain⟨v,e,h⟩:=h;obtain⟨m,hn,hl⟩:=I.loc;obtain⟨u,r,l⟩:=hl i x v hN e hv;have fin:EP X pz σ Q u s:=⟨v,H,I,r,h⟩
 rcases l with⟨hk,hm⟩|⟨hk,c,hc,hcell⟩
 .exact Qef (wpAny_loadName_local I.ok.kind hk hn hm fin) hd
 .rcases hk with hk|hk
  .exact Qef (wpAny_loadName_cell I.ok.kind hk hc hcell fin) hd
  .exact Qef (wpAny_loadName_free I.ok.kind hk hc hcell fin z) hd
def MG{i j pos}:PE X (.Constant (.int i) j pos) (tC (.int i)):=fun _ _ _ H _ I h=>wpAny_Constant_int ⟨.int i,H,I.tok _,⟨_,rfl⟩,h⟩
def LF{b j pos}:PE X (.Constant (.bool b) j pos) (tC (.bl b)):=fun _ _ _ H _ I h=>Constant_bool ⟨.bl b,H,I,rfl,h⟩
def MH{j pos}:PE X (.Constant .none j pos) (tC .non):=fun _ _ _ H _ I h=>Constant_none ⟨.non,H,I,rfl,h⟩
def Ge{x j pos}:PE X (.Constant (.str x) j pos) (tC (.str x)):=fun _ _ _ H _ I h=>Calls.Constant_str ⟨.str x,H,I.tok _,⟨_,rfl⟩,h⟩
def Gl(X:Cx)(x:Str):Prop:=X.env.kindOf x=some .globalImplicit
def my{E:Value->h_->Prop}{pz:List (Addr×Obj)}{s:h_}{σ:St}{H:Hp}{x:Str}{u:Value}{pos:Pos}{Q:Value->h_->Prop}(I:Inv X pz σ H s)(hg:Gl X x)(hm:X.mg x=some u)(h:Q u s)(hd:(x==("__debug__" : Str))=false:=by decide):w_ (B_ X.prog X.w) X.A (eval (.Name x pos) X.env) Q E s:=QbU I.ok.kind hg (Calls.loadGlobal_global (by rw[I.ok.glob];exact I.mod.glob.keeps I.bk) hm h) hd
def lx{E:Value->h_->Prop}{pz:List (Addr×Obj)}{s:h_}{σ:St}{H:Hp}{x:Str}{u:Value}{pos:Pos}{Q:Value->h_->Prop}(I:Inv X pz σ H s)(hg:Gl X x)(hm:X.mg x=none)(hv:QaS x=some u)(h:Q u s)(hn:x≠"__name__" := by decide)(hd:(x==("__debug__" : Str))=false:=by decide):w_ (B_ X.prog X.w) X.A (eval (.Name x pos) X.env) Q E s:=by obtain⟨mb,h1,h2⟩:=I.mod.blt;exact QbU I.ok.kind hg (Calls.loadGlobal_builtin (by rw[I.ok.glob];exact I.mod.glob.keeps I.bk) hm (by rw[I.ok.blt];exact h1.keeps I.bk) ((h2 x hn).trans hv) h) hd
def PP{x:Str}{v:V}{u:Value}{pos:Pos}(hg:Gl X x)(hm:X.mg x=some u)(r:aS v u)(hd:(x==("__debug__" : Str))=false:=by decide):PE X (.Name x pos) (tC v):=fun _ _ _ H _ I h=>my I hg hm ⟨v,H,I,r,h⟩ hd
def AO{x:Str}{v:V}{u:Value}{pos:Pos}(hg:Gl X x)(hm:X.mg x=none)(hv:QaS x=some u)(r:aS v u)(hn:x≠"__name__" := by decide)(hd:(x==("__debug__" : Str))=false:=by decide):PE X (.Name x pos) (tC v):=fun _ _ _ H _ I h=>lx I hg hm hv ⟨v,H,I,r,h⟩ hn hd
variable{a:Expr}
def tB(t:TE):TT:=fun σ H Q=>t σ H fun x H1=>∃c,x=.bl c/\Q c H1
variable{tA tB':TT}{rest:List Expr}
def Ei(t u:TT):TT:=fun σ H Q=>t σ H fun c H1=>if c=true then u σ H1 Q else Q false H1
def UG(t u:TT):TT:=fun σ H Q=>t σ H fun c H1=>if c=true then Q true H1 else u σ H1 Q
def Ea(t:TT):TT:=fun σ H Q=>t σ H fun c H1=>Q (! c) H1
def Ps(ha:PT X a tA):PW X (.BoolOp .And [a] pos) tA:=by intro wh pz s σ H Q I h;refine isTrue_and (bL (ha pz s σ H Q I h) fun c s1 e=>?_);cases c with
|true=>exact isTrue_and_nil e
|false=>exact e
def N8(ha:PT X a tA):PW X (.BoolOp .Or [a] pos) tA:=by intro wh pz s σ H Q I h;refine isTrue_or (bL (ha pz s σ H Q I h) fun c s1 e=>?_);cases c with
|false=>exact isTrue_or_nil e
|true=>exact e
def N7(ha:PT X a tA)(hb:PW X (.BoolOp .And (b::rest) pos) tB'):PW X (.BoolOp .And (a::b::rest) pos) (Ei tA tB'):=by intro wh pz s σ H Q I h;refine isTrue_and (bL (ha pz s σ H _ I h) fun c s1 ⟨H1,I1,q1⟩=>?_);cases c with
|true=>exact hb wh pz s1 σ H1 Q I1 q1
|false=>exact⟨H1,I1,q1⟩
def KU(ha:PT X a tA)(hb:PW X (.BoolOp .Or (b::rest) pos) tB'):PW X (.BoolOp .Or (a::b::rest) pos) (UG tA tB'):=by intro wh pz s σ H Q I h;refine isTrue_or (bL (ha pz s σ H _ I h) fun c s1 ⟨H1,I1,q1⟩=>?_);cases c with
|true=>exact⟨H1,I1,q1⟩
|false=>exact hb wh pz s1 σ H1 Q I1 q1
def MS(ha:PT X a tA):PT X (.UnaryOp .Not a pos) (Ea tA):=by intro pz s σ H Q I h;exact isTrue_not (ha pz s σ H (fun c H1=>Q (! c) H1) I h)
def La(ta tb:TE):TE:=fun σ H Q=>ta σ H fun x H1=>∃c,x=.bl c/\if c=true then tb σ H1 Q else Q (.bl false) H1
def Le(ta:TE):TE:=fun σ H Q=>ta σ H fun x H1=>∃c,x=.bl c/\Q (.bl (! c)) H1
def MJ{op}{t:TE}(h:PE X a t):PE X (.BoolOp op [a] pos) t:=fun pz s σ H Q I hw=>BoolOp_one (h pz s σ H Q I hw)
def MC(ha:PE X a ta)(hb:PE X (.BoolOp .And (b::rest) pos) tb):PE X (.BoolOp .And (a::b::rest) pos) (La ta tb):=by intro pz s σ H Q I h;refine BoolOp_and (bL (ha pz s σ H _ I h) fun v s1 ⟨x,H1,I1,r1,q1⟩=>?_);obtain⟨c,rfl,q1⟩:=q1;cases r1;refine QaL ?_;cases c with
|true=>exact hb pz s1 σ H1 Q I1 q1
|false=>exact⟨.bl false,H1,I1,rfl,q1⟩
def MI(ha:PE X a ta):PE X (.UnaryOp .Not a pos) (Le ta):=by intro pz s σ H Q I h;refine UnaryOp_ (bL (ha pz s σ H _ I h) fun v s1 ⟨x,H1,I1,r1,q1⟩=>?_);obtain⟨c,rfl,q1⟩:=q1;cases r1;exact not_of (QaL ⟨.bl (! c),H1,I1,rfl,q1⟩)
end
def cy(K:W.Frag)(H:Hp)(a:Addr)(xs:List V):Prop:=Rd H a (.lst xs) \/∃(o:Obj)(its:Array Value)(n:Nat),K.lookup a=some o/\o.cls=.type "list"/\o.dict=none/\o.data=.seq its n/\its.size<=sizeLine/\aN xs its.toList
def dy(K:W.Frag)(H:Hp)(a:Addr)(xs:List V):Prop:=Rd H a (.tup xs) \/∃(o:Obj)(its:Array Value)(n:Nat),K.lookup a=some o/\o.cls=.type "tuple"/\o.data=.seq its n/\its.size<=sizeLine/\aN xs its.toList
def EQ:Value->Option V
|.none=>some .non
|.bool b=>some (.bl b)
|.int i _=>some (.int i)
|.str x _=>some (.str x)
|.bytes b _=>some (.byt b)
|.float b _=>some (.flt b)
|.ref a=>some (.ref a)
|.type n=>some (.ty n)
|_=>none
def aS.abs{x:V}{u:Value}(r:aS x u):EQ u=some x:=by cases x with
|non=>cases r;rfl
|bl _=>cases r;rfl
|int _=>obtain⟨t,rfl⟩:=r;rfl
|str _=>obtain⟨t,rfl⟩:=r;rfl
|byt _=>obtain⟨t,rfl⟩:=r;rfl
|flt _=>obtain⟨t,rfl⟩:=r;rfl
|ref _=>cases r;rfl
|ty _=>cases r;rfl
def aS.inj{x y:V}{u:Value}(r:aS x u)(q:aS y u):x=y:=E_ (r.abs.symm.trans q.abs)
def aN.inj{xs ys:List V}{us:List Value}(h:aN xs us)(h':aN ys us):xs=ys:=by induction h generalizing ys with
|nil=>cases h';rfl
|cons r t ih=>cases h' with
 |cons r' t'=>rw[r.inj r',ih t']
variable{σ:St}
section
variable{xs ys:List V}
def cy.of{K:W.Frag}(h:H a=some (.lst xs)):cy K H a xs:=.inl (.inl h)
def Inv.list(I:Inv X pz σ H s)(h:cy X.K H a xs):∃its:List Value,aN xs its/\PlainL s.heap a its.toArray/\xs.length<=sizeLine:=by
 rcases h with h|⟨o,its,n,hk,hc,hd,hs,hz,r⟩
 .obtain⟨z,its,n,r,e⟩:=h.ok I.hok;exact⟨its,r,⟨_,n,e,rfl,rfl,rfl⟩,z⟩
 .refine⟨its.toList,r,⟨o,n,I.kIn a o hk,hc,hd,by simpa using hs⟩,?_⟩;have e:=r.length;simp only[QbO]at e;omega
def Inv.tuple(I:Inv X pz σ H s)(h:dy X.K H a xs):∃its:List Value,aN xs its/\IsTup s.heap a its.toArray/\xs.length<=sizeLine:=by
 rcases h with h|⟨o,its,n,hk,hc,hs,hz,r⟩
 .obtain⟨z,its,r,p,_⟩:=h.ok I.hok;exact⟨its,r,p,z⟩
 .refine⟨its.toList,r,⟨o,I.kIn a o hk,hc,n,by simpa using hs⟩,?_⟩;have e:=r.length;simp only[QbO]at e;omega
def Inv.list_inj(I:Inv X pz σ H s)(h:cy X.K H a xs)(h':cy X.K H a ys):xs=ys:=by
 obtain⟨its,r,⟨o,n,e,_,_,d⟩,_⟩:=I.list h;obtain⟨its',r',⟨o',n',e',_,_,d'⟩,_⟩:=I.list h';rw[e]at e';cases e';rw[d]at d';injection d' with d1 _
 have:its=its':=by simpa using congrArg QeJ d1
 subst this;exact r.inj r'
def Inv.tuple_inj(I:Inv X pz σ H s)(h:dy X.K H a xs)(h':dy X.K H a ys):xs=ys:=by
 obtain⟨its,r,⟨o,e,_,n,d⟩,_⟩:=I.tuple h;obtain⟨its',r',⟨o',e',_,n',d'⟩,_⟩:=I.tuple h';rw[e]at e';cases e';rw[d]at d';injection d' with d1 _
 have:its=its':=by simpa using congrArg QeJ d1
 subst this;exact r.inj r'
end
abbrev Cx.wish(X:Cx)(E:Value->h_->Prop):Cx:={ X with xe:=E }
abbrev Cx.nox(X:Cx):Cx:=X.wish fun _ _=>False
def Cx.Ok.wish{X:Cx}(ok:X.Ok)(E:Value->h_->Prop):(X.wish E).Ok:=⟨ok.mod,ok.kind,ok.glob,ok.blt,ok.above,ok.inj,ok.has,ok.cab,ok.hd,ok.frames,ok.stk,ok.exf,ok.bs,ok.bsz,ok.noex,ok.exfs,ok.funs,ok.frf⟩
def Cx.Ok.unwish{X:Cx}{E:Value->h_->Prop}(ok:(X.wish E).Ok):X.Ok:=⟨ok.mod,ok.kind,ok.glob,ok.blt,ok.above,ok.inj,ok.has,ok.cab,ok.hd,ok.frames,ok.stk,ok.exf,ok.bs,ok.bsz,ok.noex,ok.exfs,ok.funs,ok.frf⟩
variable{E:Value->h_->Prop}
def Inv.wish(I:Inv X pz σ H s)(E:Value->h_->Prop):Inv (X.wish E) pz σ H s:=⟨I.ok.wish E,I.os,I.bare,I.base,I.loc,I.cell,I.free,I.freeC,I.pin,I.hok,I.len⟩
def Inv.unwish(I:Inv (X.wish E) pz σ H s):Inv X pz σ H s:=⟨I.ok.unwish,I.os,I.bare,I.base,I.loc,I.cell,I.free,I.freeC,I.pin,I.hok,I.len⟩
def SP.unwish{D:Ends}{f:Flow}{s':h_}(h:SP (X.wish E) pz D f s'):SP X pz D f s':=by cases f with
|next=>obtain⟨σ',H',I,q⟩:=h;exact⟨σ',H',I.unwish,q⟩
|brk=>obtain⟨σ',H',I,q⟩:=h;exact⟨σ',H',I.unwish,q⟩
|cont=>obtain⟨σ',H',I,q⟩:=h;exact⟨σ',H',I.unwish,q⟩
|ret u=>obtain⟨v,σ',H',I,r,q⟩:=h;exact⟨v,σ',H',I.unwish,r,q⟩
def dq.nox{st:List Stmt}{t:TS}(h:dq X.nox st t):dq X st t:=fun pz s σ H D I hw=>Y7 (h pz s σ H D (I.wish _) hw) (fun _ _ q=>q.unwish) fun _ _ z=>Y2 z
variable{e:Expr}{te:TE}
section
variable{st:Stmt}{rest:List Stmt}{t u:TS}
def Ld:TS:=fun D σ H=>D.nx σ H
def sm(t u:TS):TS:=fun D σ H=>t { D with nx:=u D } σ H
def AQ:dq X [] Ld:=fun _ _ σ H _ I h=>QaF ⟨σ,H,I,h⟩
def o9(h1:PS X st t)(h2:dq X rest u):dq X (st::rest) (sm t u):=by intro pz s σ H D I h;refine wpAny_execs_cons (bL (h1 pz s σ H { D with nx:=u D } I h) fun f s1 q=>?_);cases f with
|next=>obtain⟨σ',H',I',q⟩:=q;exact h2 pz s1 σ' H' D I' q
|ret v=>exact q
|brk=>exact q
|cont=>exact q
def Pp(h1:PS X st t):dq X [st] t:=by intro pz s σ H D I h;refine wpAny_execs_cons (bL (h1 pz s σ H D I h) fun f s1 q=>?_);cases f with
|next=>exact QaF q
|ret v=>exact q
|brk=>exact q
|cont=>exact q
def Inv.quiet{pz:List (Addr×Obj)}{σ:St}{H:Hp}{s:h_}(I:Inv X pz σ H s):interactive X.env=false:=by simp[interactive,I.ok.kind]
def FB(te:TE):TS:=fun D σ H=>te σ H fun _ H1=>D.nx σ H1
def uZ(he:PE X e te)(hs:Qaw e none pos.line X.env=pure false:=by rfl):PS X (.Expr e pos) (FB te):=by intro pz s σ H D I h;exact wpAny_Expr_any (bL (he pz s σ H _ I h) fun v s1 ⟨x,H1,I1,r1,q1⟩=>⟨σ,H1,I1,q1⟩) I.quiet hs
def D9(te:TE):TS:=fun D σ H=>te σ H D.rt
def Aq(he:PE X e te):PS X (.Return (some e) pos) (D9 te):=by intro pz s σ H D I h;exact wpAny_Return_some (bL (he pz s σ H _ I h) fun v s1 ⟨x,H1,I1,r1,q1⟩=>⟨x,σ,H1,I1,r1,q1⟩)
def Ee(c:TT)(t u:TS):TS:=fun D σ H=>c σ H fun b H1=>if b=true then t D σ H1 else u D σ H1
def KR{c:Expr}{a b:List Stmt}{tc:TT}(hc:PT X c tc)(ha:dq X a t)(hb:dq X b u):PS X (.If c a b pos) (Ee tc t u):=by intro pz s σ H D I h;refine wpAny_If (bL (hc pz s σ H _ I h) fun d s1 ⟨H1,I1,q1⟩=>?_);cases d with
|true=>exact ha pz s1 σ H1 D I1 q1
|false=>exact hb pz s1 σ H1 D I1 q1
def Gy:TS:=fun _ _ _=>False
def Qa:PS X st Gy:=fun _ _ _ _ _ _ h=>h.elim
def RE{sts:List Stmt}:dq X sts Gy:=fun _ _ _ _ _ _ h=>h.elim
end
abbrev TG:=V->St->Hp->(St->Hp->Prop)->Prop
abbrev j7:=List V->St->Hp->(St->Hp->Prop)->Prop
def PG(X:Cx)(target:Expr)(t:TG):Prop:=∀(pz:List (Addr×Obj))(s:h_)(σ:St)(H:Hp)(v:V)(u:Value)(Q:St->Hp->Prop),Inv X pz σ H s->aS v u->t v σ H Q ->w_ (B_ X.prog X.w) X.A (Qax target X.env u) (fun _ s'=>∃σ' H',Inv X pz σ' H' s'/\Q σ' H') X.xe s
def jS(X:Cx)(ts:List Expr)(t:j7):Prop:=∀(pz:List (Addr×Obj))(s:h_)(σ:St)(H:Hp)(vs:List V)(us:List Value)(Q:St->Hp->Prop),Inv X pz σ H s->aN vs us->t vs σ H Q ->w_ (B_ X.prog X.w) X.A (assignInOrder ((Zi ts X.env).map (·.2)) us) (fun _ s'=>∃σ' H',Inv X pz σ' H' s'/\Q σ' H') X.xe s
abbrev lf:=V->V->V->Hp->(Hp->Prop)->Prop
def gj(X:Cx)(t:lf):Prop:=∀(pz:List (Addr×Obj))(s:h_)(σ:St)(H:Hp)(o i v:V)(ov iv u:Value)(Q:Hp->Prop),Inv X pz σ H s->aS o ov->aS i iv->aS v u->t o i v H Q ->w_ (B_ X.prog X.w) X.A (Qdq ov iv u) (fun _ s'=>∃H',Inv X pz σ H' s'/\Q H') X.xe s
def E8(i:Nat):TG:=fun v σ H Q=>Q (σ.set i (some v)) H
def Hl{i:Nat}{x:Str}(hN:X.N.Nodup)(hi:X.N[i]? = some x)(hx:iN X.env.scope x)(hf:X.fn x=true\/X.env.scope.names.lookup x=some .local:=by first|exact .inl rfl|exact .inr rfl|assumption):PG X (.Name x pos) (E8 i):=by intro pz s σ H v u Q I r h;exact Qb9 (IK I hN hi hx r (fun s' I'=>⟨_,H,I',h⟩) hf)
def EL:j7:=fun vs σ H Q=>vs=[]/\Q σ H
def Ll(t:TG)(u:j7):j7:=fun vs σ H Q=>∃v r,vs=v::r/\t v σ H fun σ' H'=>u r σ' H' Q
def Hm:jS X [] EL:=by intro pz s σ H vs us Q I r h;obtain⟨e,h⟩:=h;subst e;cases r;exact assignInOrder_nil ⟨σ,H,I,h⟩
def Bo{e:Expr}{es:List Expr}{t:TG}{u:j7}(h1:PG X e t)(h2:jS X es u)(hs:(Zi (e::es) X.env).map (·.2)=Qax e X.env::(Zi es X.env).map (·.2):=by rfl):jS X (e::es) (Ll t u):=by intro pz s σ H vs us Q I r h;obtain⟨v,vr,e1,h⟩:=h;subst e1;cases r with
|cons r rr=>rw[hs];refine assignInOrder_cons (bL (h1 pz s σ H _ _ _ I r h) fun _ s1 ⟨σ1,H1,I1,q1⟩=>?_);exact h2 pz s1 σ1 H1 _ _ Q I1 rr q1
def EJ(K:W.Frag)(n:Nat)(t:j7):TG:=fun v σ H Q=>∃a xs,v=.ref a/\dy K H a xs/\xs.length=n/\t xs σ H Q
def Gg{es:List Expr}{k:Nat}{t:j7}{n:Nat}(hc:X.calm=true)(h:jS X es t)(hn:(Zi es X.env).length=n:=by rfl)(z:(Zi es X.env).findIdx? (·.1)=none:=by rfl):PG X (.Tuple es k pos) (EJ X.K n t):=by intro pz s σ H v u Q I r hw;obtain⟨a,xs,e1,hq,hl,hw⟩:=hw;subst e1;cases r;obtain⟨its,rv,ht,hz⟩:=I.tuple hq;refine assign_Tuple_tuple (I.ok.hd hc) ht (by simp[hn,<-hl,rv.length]) z fun h' hx=>?_;have I1:Inv X pz σ H { s with heap:=h' }:=I.kept (t':=s.toks) fun b o e=>hx b o (G_ (z_ e)) e;exact h pz _ σ H xs _ Q I1 (by simpa using rv) hw
def EK(to ti:TE)(t:lf):TG:=fun v σ H Q=>to σ H fun o H1=>ti σ H1 fun i H2=>t o i v H2 fun H3=>Q σ H3
def Am{o i:Expr}{to ti:TE}{t:lf}(ho:PE X o to)(hi:PE X i ti)(hs:gj X t)(ha:∀v,Qax (.Subscript o i pos) X.env v=(do
   let ov <-Qam [v] (eval o X.env);let iv <-Qam [v,ov] (eval i X.env)
   Qca pos
   Qam [v,ov,iv] (Qdq ov iv v)
   release [v,ov,iv] []):=by intro _;rfl):PG X (.Subscript o i pos) (EK to ti t):=by intro pz s σ H v u Q I r h;rw[ha];refine a_ (ZJ (bL (ho pz s σ H _ I h) fun ov s1 ⟨x,H1,I1,r1,q1⟩=>?_));refine a_ (ZJ (bL (hi pz s1 σ H1 _ I1 q1) fun iv s2 ⟨y,H2,I2,r2,q2⟩=>?_));refine a_ (QaH (a_ (ZJ (bL (hs pz s2 σ H2 x y v ov iv u _ I2 r1 r2 r q2) fun _ s3 ⟨H3,I3,q3⟩=>?_))));exact wpAny_release ⟨σ,H3,I3,q3⟩
def sx(te:TE)(g:TG):TS:=fun D σ H=>te σ H fun x H1=>g x σ H1 D.nx
def Gh{tg e:Expr}{te:TE}{g:TG}(he:PE X e te)(hg:PG X tg g)(hs:Qc5 [tg] e pos.line X.env=pure false:=by rfl)(hw:Qc6 [tg] e X.env=pure none:=by rfl)(h1:(Zi [tg] X.env).map (·.2)=[Qax tg X.env]:=by rfl):PS X (.Assign [tg] e pos) (sx te g):=by intro pz s σ H D I h;refine wpAny_Assign_stores (bL (he pz s σ H _ I h) fun v s1 ⟨x,H1,I1,r1,q1⟩=>?_) hs hw;rw[h1];exact bL (hg pz s1 σ H1 x v _ I1 r1 q1) fun _ s2 q=>q
def uJ{i:Nat}{x:Str}{e:Expr}{te:TE}{pos':Pos}(hN:X.N.Nodup)(hi:X.N[i]? = some x)(hx:iN X.env.scope x)(he:PE X e te)(hs:Qaw e (some (.Name x pos')) pos.line X.env=pure false:=by rfl)(hf:X.fn x=true\/X.env.scope.names.lookup x=some .local:=by first|exact .inl rfl|exact .inr rfl|assumption):PS X (.Assign [.Name x pos'] e pos) (sx te (E8 i)):=by intro pz s σ H D I h;refine wpAny_Assign_Name (bL (he pz s σ H _ I h) fun v s1 ⟨y,H1,I1,r1,q1⟩=>?_) hs;exact IK I1 hN hi hx r1 (fun s2 I2=>⟨_,H1,I2,q1⟩) hf
def Nv(c:TT)(tb:TS):TS:=fun D σ H=>∃W:Nat->St->Hp->Prop,(∃m,W m σ H)/\∀m σ H,W m σ H ->c σ H fun b H1=>if b=true then ∃N:St->Hp->Prop,(∀σ' H',N σ' H'->∃m',m'<m/\W m' σ' H')/\tb { D with nx:=N,ct:=N,bk:=D.nx } σ H1 else D.nx σ H1
def Qb{c:Expr}{body:List Stmt}{tc:TT}{tb:TS}(hp:QbT (B_ X.prog X.w) X.A X.env X.xe)(hc:PT X c tc)(hb:dq X body tb):PS X (.While c body [] pos) (Nv tc tb):=by
 intro pz s σ H D I h;obtain⟨W,⟨m0,w0⟩,turn⟩:=h;refine wpAny_While (codeAny_whileLoop (fun n s'=>∃σ' H',Inv X pz σ' H' s'/\W n σ' H') ?_ m0 ⟨σ,H,I,w0⟩)
 rintro n s1 ⟨σ1,H1,I1,w1⟩
 refine Qak hp (bL (hc pz s1 σ1 H1 _ I1 (turn n σ1 H1 w1)) fun b s2 ⟨H2,I2,q2⟩=>?_);cases b with
|true=>obtain⟨N,hN,q2⟩:=q2;rw[if_pos rfl];refine Qak hp (bL (hb pz s2 σ1 H2 _ I2 q2) fun f s3 q3=>?_);cases f with
 |next=>obtain⟨σ3,H3,I3,n3⟩:=q3;obtain⟨m',hm,w3⟩:=hN σ3 H3 n3;exact⟨m',hm,σ3,H3,I3,w3⟩
 |cont=>obtain⟨σ3,H3,I3,n3⟩:=q3;obtain⟨m',hm,w3⟩:=hN σ3 H3 n3;exact⟨m',hm,σ3,H3,I3,w3⟩
 |brk=>exact q3
 |ret v=>exact q3
|false=>rw[if_neg k_];exact QaF ⟨σ1,H2,I2,q2⟩
structure It where
 go:Nat->Hp->Prop
 yld:Nat->Hp->V->Hp->Prop
 stop:Nat->Hp->Prop
def eL(X:Cx)(pz:List (Addr×Obj))(H:Hp)(b:Addr):Prop:=H b=none/\b≠X.env.locals/\b∉X.fs/\(b∈X.ex\/X.s₀.heap.objs.size<=b)/\(∀x c,X.env.cells.lookup x=some c->c≠b)/\∀p∈X.pn++pz,p.1≠b
def Inv.fpOk{X:Cx}{pz:List (Addr×Obj)}{σ:St}{H H':Hp}{s:h_}{b:Addr}(I:Inv X pz σ H s)(hb:s.heap.objs.size<=b)(hn:H' b=none):eL X pz H' b:=by
 refine⟨hn,ZV (F_ I.lt hb),I.nofs hb,.inr (Y8 I.sz hb),fun x c e z=>?_,fun p hp z=>?_⟩
 .obtain⟨v,q⟩:=I.cell x c e;exact absurd (F_ q.lt (by rw[z];exact hb)) (Zw _)
 .exact absurd (F_ (z_ (I.pin p hp).1) (by rw[z];exact hb)) (Zw _)
structure Turn(P:C_)(w:N_)(K:W.Frag)(tg:Expr)(J:It)(fp:List Addr)(it:Addr)(tn:Nat->Heap->Prop):Prop where
 mem:it∈fp
 obj:∀i h,tn i h->∀b∈fp,∃o,h.get? b=some o/\∀v,o.data≠.cell v
 keep:∀i h h',tn i h->(∀b∈fp,∀o,h.get? b=some o->h'.get? b=some o)->tn i h'
 item:∀(X:Cx),X.prog=P->X.w=w->X.K=K->X.calm=true->∀(i:Nat)(pz:List (Addr×Obj))(s:h_)(σ:St)(H:Hp)(E:Value->h_->Prop),Inv X pz σ H s->(∀b∈fp,eL X pz H b)->tn i s.heap->J.go i H ->w_ (B_ P w) X.A (QcL (.ref it)) (fun r s1=>∃u,r=some u /\w_ (B_ P w) X.A (QbJ tg (.ref it) u) (fun _ s2=>∃x H',Inv X pz σ H' s2/\aS x u/\J.yld i H x H'/\tn (i+1) s2.heap/\∀b∈fp,H' b=none) E s1) E s
 done:∀(X:Cx),X.prog=P->X.w=w->X.K=K->X.calm=true->∀(i:Nat)(pz:List (Addr×Obj))(s:h_)(σ:St)(H:Hp)(E:Value->h_->Prop),Inv X pz σ H s->(∀b∈fp,eL X pz H b)->tn i s.heap->J.stop i H ->w_ (B_ P w) X.A (QcL (.ref it)) (fun r s1=>r=none/\Inv X pz σ H s1) E s
 self:∀(A:W_)(i:Nat)(s:h_)(Q:Value->h_->Prop)(E:Value->h_->Prop),tn i s.heap->Q (.ref it) s->w_ (B_ P w) A (Qeg (.ref it)) Q E s
abbrev TI:=St->Hp->(It->Hp->Prop)->Prop
def Kw(X:Cx)(pz:List (Addr×Obj))(σ:St)(tg:Expr)(R:It->Hp->Prop)(itv:Value)(s2:h_):Prop:=∃(it:Addr)(fp:List Addr)(tn:Nat->Heap->Prop)(J:It)(H':Hp),itv=.ref it/\Inv X pz σ H' s2/\Turn X.prog X.w X.K tg J fp it tn/\tn 0 s2.heap/\(∀b∈fp,eL X pz H' b)/\R J H'
def PI(X:Cx)(tg iter:Expr)(wi:TI):Prop:=∀(pz:List (Addr×Obj))(s:h_)(σ:St)(H:Hp)(R:It->Hp->Prop),Inv X pz σ H s->wi σ H R ->w_ (B_ X.prog X.w) X.A (eval iter X.env) (fun v s1=>w_ (B_ X.prog X.w) X.A (Qeg v) (Kw X pz σ tg R) X.xe s1) X.xe s
def uD{M:Qee}{A:W_}{E:Value->h_->Prop}{s:h_}{tg:Expr}{it:Addr}{u:Value}{o:Obj}{n:String}{vs:Array Value}{Q:Unit->h_->Prop}(ho:s.heap.get? it=some o)(hc:o.cls=.type n)(hd:o.data=.fields vs)(hn : ["enumerate","zip","dict_itemiterator","dict_reverseitemiterator","odict_iterator","itertools.zip_longest","itertools.pairwise"].contains n=false)(hQ:Q () s):w_ M A (QbJ tg (.ref it) u) Q E s:=by
  unfold QbJ;cases tg <;> first
    |exact n_ hQ
    |(cases u <;> first
        |exact n_ hQ
        | (refine a_ (Qeh ho ?_)
           rw[hc,hd];show w_ M A (if (["enumerate","zip","dict_itemiterator","dict_reverseitemiterator","odict_iterator","itertools.zip_longest","itertools.pairwise"].contains n&&vs[0]? == some (Qbh _))=true then _ else _) Q E s;rw[if_neg (by intro h;rw[hn,Bool.false_and]at h;cases h)];exact n_ hQ))
def pL(K:W.Frag)(a:Addr):It:=⟨fun i H=>∃xs x,cy K H a xs/\xs[i]? = some x,fun i H x H'=>H'=H/\∀xs,cy K H a xs->xs[i]? = some x,fun i H=>∃xs,cy K H a xs/\xs.length<=i⟩
def EW(K:W.Frag)(a:Addr):It:=⟨fun i H=>∃xs x,dy K H a xs/\xs[i]? = some x,fun i H x H'=>H'=H/\∀xs,dy K H a xs->xs[i]? = some x,fun i H=>∃xs,dy K H a xs/\xs.length<=i⟩
def yS(lo:Int)(n:Nat):It:=⟨fun i _=>i<n,fun i H x H'=>H'=H/\x=.int (lo+i),fun i _=>n<=i⟩
def IW{P:C_}{w:N_}{K:W.Frag}{tg:Expr}(a it:Addr):Turn P w K tg (pL K a) [it] it (fun i h=>h.IsListIter it a i) where
 mem:=by simp
 obj:=fun i h st b hb=>by
  have e:b=it:=by simpa using hb
  subst e;obtain⟨o,e,c,d⟩:=st;exact⟨o,e,fun v z=>by rw[d]at z;cases z⟩
 keep:=fun i h h' st k=>st.at fun o e=>k it (by simp) o e
 item:=by intro X hP hw hK hc i pz s σ H E I hf st hg;subst hP hw hK;obtain⟨xs,x,hq,hx⟩:=hg;obtain⟨its,rv,p,hz⟩:=I.list hq;obtain⟨u,hu,ru⟩:=rv.get hx;obtain⟨f0,f1,f2,f3,f4,f5⟩:=hf it (by simp);refine wpAny_pyNext_list_item st p.isList (x:=u) (by simpa using hu) fun h' st' sb=>?_;have I1:Inv X pz σ H { s with heap:=h' }:=I.turned (t':=s.toks) (fun b o hb e=>(sb.2 b hb).trans e) f0 f1 f3 f4 f5;obtain⟨o,e,c,d⟩:=id st';exact⟨u,rfl,uD (s:={ s with heap:=h' }) e c d (by decide) ⟨x,H,I1,ru,⟨rfl,fun ys hy=>by rw[I.list_inj hy hq];exact hx⟩,st',fun b hb=>(hf b hb).1⟩⟩
 done:=by intro X hP hw hK hc i pz s σ H E I hf st hg;subst hP hw hK;obtain⟨xs,hq,hx⟩:=hg;obtain⟨its,rv,p,hz⟩:=I.list hq;obtain⟨f0,f1,f2,f3,f4,f5⟩:=hf it (by simp);have hl:=rv.length;exact wpAny_pyNext_list_end (I.ok.hd hc) st p.isList (by simp;omega) fun h' eb=>⟨rfl,I.turned (t':=s.toks) (fun b o hb e=>eb b o hb e) f0 f1 f3 f4 f5⟩
 self:=fun _ _ _ _ _ st h=>wpAny_pyIter_listiter st h
def SN{P:C_}{w:N_}{K:W.Frag}{tg:Expr}(a it:Addr):Turn P w K tg (EW K a) [it] it (fun i h=>h.IsTupleIter it a i) where
 mem:=by simp
 obj:=fun i h st b hb=>by
  have e:b=it:=by simpa using hb
  subst e;obtain⟨o,e,c,d⟩:=st;exact⟨o,e,fun v z=>by rw[d]at z;cases z⟩
 keep:=fun i h h' st k=>st.at fun o e=>k it (by simp) o e
 item:=by intro X hP hw hK hc i pz s σ H E I hf st hg;subst hP hw hK;obtain⟨xs,x,hq,hx⟩:=hg;obtain⟨its,rv,p,hz⟩:=I.tuple hq;obtain⟨u,hu,ru⟩:=rv.get hx;obtain⟨f0,f1,f2,f3,f4,f5⟩:=hf it (by simp);refine wpAny_pyNext_tuple_item st (show s.heap.IsTuple a its.toArray from p) (x:=u) (by simpa using hu) fun h' st' sb=>?_;have I1:Inv X pz σ H { s with heap:=h' }:=I.turned (t':=s.toks) (fun b o hb e=>(sb.2 b hb).trans e) f0 f1 f3 f4 f5;obtain⟨o,e,c,d⟩:=id st';exact⟨u,rfl,uD (s:={ s with heap:=h' }) e c d (by decide) ⟨x,H,I1,ru,⟨rfl,fun ys hy=>by rw[I.tuple_inj hy hq];exact hx⟩,st',fun b hb=>(hf b hb).1⟩⟩
 done:=by intro X hP hw hK hc i pz s σ H E I hf st hg;subst hP hw hK;obtain⟨xs,hq,hx⟩:=hg;obtain⟨its,rv,p,hz⟩:=I.tuple hq;obtain⟨f0,f1,f2,f3,f4,f5⟩:=hf it (by simp);have hl:=rv.length;exact wpAny_pyNext_tuple_end (I.ok.hd hc) st (show s.heap.IsTuple a its.toArray from p) (by simp;omega) fun h' eb=>⟨rfl,I.turned (t':=s.toks) (fun b o hb e=>eb b o hb e) f0 f1 f3 f4 f5⟩
 self:=fun _ _ _ _ _ st h=>wpAny_pyIter_tupleiter st h
def SM{P:C_}{w:N_}{K:W.Frag}{tg:Expr}(it:Addr)(lo:Int)(n:Nat):Turn P w K tg (yS lo n) [it] it (fun i h=>IsRangeIter h it (lo+(i:Nat)*1) ((n:Int)-(i:Nat)) 1) where
 mem:=by simp
 obj:=fun i h st b hb=>by
  have e:b=it:=by simpa using hb
  subst e;exact⟨_,st,fun v z=>by have z':Data.fields _=Data.cell v:=z;cases z'⟩
 keep:=fun i h h' st k=>k it (by simp) _ st
 item:=by intro X hP hw hK hc i pz s σ H E I hf st hg;subst hP hw hK;obtain⟨f0,f1,f2,f3,f4,f5⟩:=hf it (by simp);have W:=Walks.range (prog:=X.prog) (w:=X.w) (I.ok.hd hc) it lo 1 n;refine W.item i s _ _ hg st fun v h' tk hv st' kk=>?_;obtain⟨t,rfl⟩:=hv;have I1:Inv X pz σ H { s with heap:=h',toks:=tk }:=I.turned (fun b o hb e=>kk b o (by simpa using hb) e) f0 f1 f3 f4 f5;refine⟨_,rfl,uD (s:={ s with heap:=h',toks:=tk }) (n := "range_iterator") st' rfl rfl (by decide) ⟨.int (lo+i),H,I1,⟨t,?_⟩,⟨rfl,rfl⟩,st',fun b hb=>(hf b hb).1⟩⟩;rw[Int.mul_one]
 done:=by intro X hP hw hK hc i pz s σ H E I hf st hg;subst hP hw hK;obtain⟨f0,f1,f2,f3,f4,f5⟩:=hf it (by simp);exact wpAny_pyNext_range_end (I.ok.hd hc) st (by have:n<=i:=hg;omega) fun h' eb=>⟨rfl,I.turned (t':=s.toks) (fun b o hb e=>eb b o hb e) f0 f1 f3 f4 f5⟩
 self:=fun _ _ _ _ _ st h=>wpAny_pyIter_rangeiter st h
section
variable{tg:Expr}
def Ln(K:W.Frag)(tl:TE):TI:=fun σ H R=>tl σ H fun x H1=>∃a,x=.ref a/\(∃xs,cy K H1 a xs)/\R (pL K a) H1
def Pj{l:Expr}{tl:TE}(hl:PE X l tl):PI X tg l (Ln X.K tl):=by
 intro pz s σ H R I h;refine bL (hl pz s σ H _ I h) fun v s1 ⟨x,H1,I1,r1,q1⟩=>?_;obtain⟨a,e,⟨xs,hq⟩,q⟩:=q1;subst e;cases r1;obtain⟨its,rv,p,hz⟩:=I1.list hq;refine Qbi p.isList ?_;refine⟨s1.heap.objs.size,[s1.heap.objs.size],_,_,H1,rfl,I1.kept (t':=s1.toks) fun b o e=>c_ _ e,IW a _,⟨_,t_ _ rfl,rfl,rfl⟩,fun b hb=>?_,q⟩;have e:b=s1.heap.objs.size:=by simpa using hb
 subst e;exact I1.fpOk (y_ _) (I1.hok.fresh (y_ _))
def Qh{pz:List (Addr×Obj)}{σ:St}{H:Hp}{s:h_}{R:It->Hp->Prop}{E:Value->h_->Prop}{lo hi:Int}{t u v:Tok}{tk:Nat}(I:Inv X pz σ H s)(h1 : -(2^62)<=lo)(h2:lo<2^62)(h3 : -(2^62)<=hi)(h4:hi<2^62)(q:R (yS lo (hi-lo).toNat) H):w_ (B_ X.prog X.w) X.A (Qeg (.ref s.heap.objs.size)) (Kw X pz σ tg R) E { s with heap:=s.heap.push { cls:=.type "range",data:=.fields #[.int lo t,.int hi u,.int 1 v] },toks:=tk }:=by
 refine wpAny_pyIter_range (IsRange.new ..) (small_one h1 h2 h3 h4) ?_;have I1:Inv X pz σ H { s with heap:=s.heap.push { cls:=.type "range",data:=.fields #[.int lo t,.int hi u,.int 1 v] },toks:=tk }:=I.kept fun b o e=>c_ _ e;refine⟨(s.heap.push { cls:=.type "range",data:=.fields #[.int lo t,.int hi u,.int 1 v] }).objs.size,[(s.heap.push { cls:=.type "range",data:=.fields #[.int lo t,.int hi u,.int 1 v] }).objs.size],_,_,H,rfl,I1.kept (t':=tk) fun b o e=>c_ _ e,SM _ lo (hi-lo).toNat,?_,fun b hb=>?_,q⟩
 .have e1:lo+((0:Nat):Int)*1=lo:=by simp
  have e2:(((hi-lo).toNat:Nat):Int)-((0:Nat):Int)=ZG lo hi 1:=by rw[Qc7];split <;> omega
  show IsRangeIter _ _ (lo+((0:Nat):Int)*1) ((((hi-lo).toNat:Nat):Int)-((0:Nat):Int)) 1;rw[e1,e2];exact t_ _ rfl
 .have e:b=(s.heap.push { cls:=.type "range",data:=.fields #[.int lo t,.int hi u,.int 1 v] }).objs.size:=by simpa using hb
  subst e;exact I1.fpOk (y_ _) (I1.hok.fresh (y_ _))
def Lo(ta:TA):TI:=fun σ H R=>ta σ H fun vs H1=>∃j:Int,vs=[.int j]/\-(2^62)<=j/\j<2^62/\R (yS 0 j.toNat) H1
def RC{a:Expr}{ta:TA}{p pos:Pos}(hg:Gl X "range")(hm:X.mg "range" = none)(ha:PA X [a] ta)(hs:f_ [a] X.env=[(false,eval a X.env)]:=by rfl):PI X tg (.Call (.Name "range" p) [a] [] pos) (Lo ta):=by intro pz s σ H R I h;refine Call_ (lx I hg hm Qei (ZI (bL (ha pos pz s σ H _ I h) fun us s1 ⟨vs,H1,I1,r1,q1⟩=>?_) hs rfl));obtain⟨j,e,q1,q2,q⟩:=q1;subst e;cases r1 with
|cons r rr=>cases rr;obtain⟨t,rfl⟩:=r;exact call_range_1 (Qh I1 (by omega) (by omega) q1 q2 (by simpa using q))
def su(wi:TI)(g:TG)(tb:TS):TS:=fun D σ H=>wi σ H fun J H1=>∃W:Nat->Nat->St->Hp->Prop,(∃m,W 0 m σ H1)/\∀i m σ H,W i m σ H ->(J.stop i H/\D.nx σ H)\/(J.go i H/\∃N:St->Hp->Prop,(∀σ' H',N σ' H'->∃m',m'<m/\W (i+1) m' σ' H')/\∀x H',J.yld i H x H'->g x σ H' fun σ2 H2=>tb { D with nx:=N,ct:=N,bk:=D.nx } σ2 H2)
def oH(fp:List Addr)(h:Heap):List (Addr×Obj):=fp.filterMap fun b=>(h.get? b).map fun o=>(b,o)
def pv{fp:List Addr}{h:Heap}{b:Addr}{o:Obj}(hb:b∈fp)(e:h.get? b=some o):(b,o)∈oH fp h:=List.mem_filterMap.mpr ⟨b,hb,by rw[e];rfl⟩
def RP{fp:List Addr}{h:Heap}{p:Addr×Obj}(hp:p∈oH fp h):p.1∈fp/\h.get? p.1=some p.2:=by obtain⟨b,hb,e⟩:=List.mem_filterMap.mp hp;cases q:h.get? b with
|none=>rw[q]at e;cases e
|some o=>rw[q]at e;have e':(b,o)=p:=E_ e;subst e';exact⟨hb,q⟩
def Inv.pinned{pz:List (Addr×Obj)}{σ:St}{H:Hp}{s:h_}{fp:List Addr}(I:Inv X pz σ H s)(hf:∀b∈fp,eL X pz H b)(ho:∀b∈fp,∃o,s.heap.get? b=some o/\∀v,o.data≠.cell v):Inv X (pz++oH fp s.heap) σ H s:=I.pins_of fun p hp=>(QaE.mp hp).elim (fun z=>I.pin p (M_ _ z)) fun z=>by obtain⟨hb,e⟩:=RP z;obtain⟨f0,f1,f2,_⟩:=hf p.1 hb;obtain⟨o,e',d⟩:=ho p.1 hb;rw[e]at e';cases e';exact⟨e,f0,f1,f2,d⟩
def Inv.unpinned{pz pl:List (Addr×Obj)}{σ:St}{H:Hp}{s:h_}(I:Inv X (pz++pl) σ H s):Inv X pz σ H s:=I.pins_of fun p hp=>I.pin p (M_ _ (QaO _ hp))
def uI{iter:Expr}{body:List Stmt}{wi:TI}{g:TG}{tb:TS}{pos:Pos}(hp:QbT (B_ X.prog X.w) X.A X.env X.xe)(hc:X.calm=true)(hi:PI X tg iter wi)(hg:PG X tg g)(hb:dq X body tb)(hs:∀x,Zq iter X.env x=pure x:=by intro _;rfl):PS X (.For tg iter body [] pos) (su wi g tb):=by
 intro pz s σ H D I h;refine wpAny_For (bL (hi pz s σ H _ I h) fun v s1 h1=>bL h1 fun itv s2 h2=>?_) hs;obtain⟨it,fp,tn,J,H2,e,I2,T,Z,f2,W,⟨m0,w0⟩,turn⟩:=h2;subst e;have U:∀{H':Hp},(∀b∈fp,H' b=none)->∀b∈fp,eL X pz H' b:=fun hn b hb=>⟨hn b hb,(f2 b hb).2⟩
 refine Qc1 (fun n s'=>∃i σ' H',Inv X pz σ' H' s'/\tn i s'.heap/\(∀b∈fp,H' b=none)/\W i n σ' H') ?_ m0 ⟨0,σ,H2,I2,Z,fun b hb=>(f2 b hb).1,w0⟩
 rintro n s3 ⟨i,σ3,H3,I3,st3,fr3,w3⟩
 rcases turn i n σ3 H3 w3 with⟨stop,qn⟩|⟨go,N,hN,step⟩
 .refine Qak hp (bL (T.done X rfl rfl rfl hc i pz s3 σ3 H3 X.xe I3 (U fr3) st3 stop) fun r s4 ⟨hr,I4⟩=>?_);subst hr;exact QaF ⟨σ3,H3,I4,qn⟩
 .refine Qak hp (bL (T.item X rfl rfl rfl hc i pz s3 σ3 H3 X.xe I3 (U fr3) st3 go) fun r s4 ⟨u,hr,h4⟩=>?_);subst hr;refine Qak hp (bL h4 fun _ s5 ⟨x,H5,I5,r5,y5,st5,fr5⟩=>?_);have Y:=I5.pinned (U fr5) (T.obj _ _ st5);refine Qak hp (bL (hg _ s5 σ3 H5 x u _ Y r5 (step x H5 y5)) fun _ s6 ⟨σ6,H6,I6,q6⟩=>?_);refine Qak hp (bL (hb _ s6 σ6 H6 _ I6 q6) fun f s7 q7=>?_);have again:∀{z:St}{H7:Hp},Inv X (pz++oH fp s5.heap) z H7 s7->N z H7->∃m,m<n/\∃i σ' H',Inv X pz σ' H' s7/\tn i s7.heap/\(∀b∈fp,H' b=none)/\W i m σ' H':=fun{z H7} I7 n7=>by obtain⟨m',hm,w7⟩:=hN z H7 n7;refine⟨m',hm,i+1,z,H7,I7.unpinned,T.keep _ _ _ st5 fun b hb o e=>(I7.pin (b,o) (M_ _ (M_ _ (pv hb e)))).1,fun b hb=>?_,w7⟩;obtain⟨o,e,d⟩:=T.obj _ _ st5 b hb;exact(I7.pin (b,o) (M_ _ (M_ _ (pv hb e)))).2.1
  cases f with
 |next=>obtain⟨z,H7,I7,n7⟩:=q7;exact again I7 n7
 |cont=>obtain⟨z,H7,I7,n7⟩:=q7;exact again I7 n7
 |brk=>obtain⟨z,H7,I7,q7⟩:=q7;exact⟨z,H7,I7.unpinned,q7⟩
 |ret v=>obtain⟨x7,z,H7,I7,r7,q7⟩:=q7;exact⟨x7,z,H7,I7.unpinned,r7,q7⟩
end
abbrev R2:=V->V->Hp->VK->Prop
def cu(X:Cx)(f:Value->Value->Sem Value)(r:R2):Prop:=∀(pz:List (Addr×Obj))(s:h_)(σ:St)(H:Hp)(x y:V)(v u:Value)(Q:VK),Inv X pz σ H s->aS x v->aS y u->r x y H Q ->w_ (B_ X.prog X.w) X.A (f v u) (EP X pz σ Q) X.xe s
def ER(X:Cx)(f:Value->Sem Value)(r:V->Hp->VK->Prop):Prop:=∀(pz:List (Addr×Obj))(s:h_)(σ:St)(H:Hp)(x:V)(v:Value)(Q:VK),Inv X pz σ H s->aS x v->r x H Q ->w_ (B_ X.prog X.w) X.A (f v) (EP X pz σ Q) X.xe s
def gp(X:Cx)(f:Value)(r:List V->Hp->VK->Prop):Prop:=∀(pz:List (Addr×Obj))(s:h_)(σ:St)(H:Hp)(xs:List V)(us:List Value)(Q:VK),Inv X pz σ H s->aN xs us->r xs H Q ->w_ (B_ X.prog X.w) X.A (call f us) (EP X pz σ Q) X.xe s
def ET(X:Cx)(r:V->Hp->(Bool->Hp->Prop)->Prop):Prop:=∀(pz:List (Addr×Obj))(s:h_)(σ:St)(H:Hp)(x:V)(v:Value)(Q:Bool->Hp->Prop),Inv X pz σ H s->aS x v->r x H Q ->w_ (B_ X.prog X.w) X.A (truthy v) (TP X pz σ Q) X.xe s
def sr(r:R2)(ta tb:TE):TE:=fun σ H Q=>ta σ H fun x H1=>tb σ H1 fun y H2=>r x y H2 Q
def UD(r:V->Hp->VK->Prop)(ta:TE):TE:=fun σ H Q=>ta σ H fun x H1=>r x H1 Q
def rI(C:Int->Int->Prop)(g:Int->Int->V):R2:=fun x y H Q=>∃i j,x=.int i/\y=.int j/\C i j/\Q (g i j) H
def jG(g:Int->Int->V):R2:=fun x y H Q=>∃i j,x=.int i/\y=.int j/\Q (g i j) H
def rU(g:Int->V):V->Hp->VK->Prop:=fun x H Q=>∃i,x=.int i/\Q (g i) H
variable{c:Expr}{tc:TE}
section
variable{a:Expr}
def nI(ha:PE X a ta)(hb:PE X b tb){pz:List (Addr×Obj)}{s:h_}{σ:St}{H:Hp}{R:V->V->Hp->Prop}(I:Inv X pz σ H s)(h:ta σ H fun x H1=>tb σ H1 fun y H2=>R x y H2){Q:Value->h_->Prop}{f:Value->Value->Sem Value}(hf:∀v u s2 x y H2,Inv X pz σ H2 s2->aS x v->aS y u->R x y H2->w_ (B_ X.prog X.w) X.A (f v u) Q X.xe s2):w_ (B_ X.prog X.w) X.A (eval a X.env) (fun v s₁=>w_ (B_ X.prog X.w) X.A (eval b X.env) (fun u s₂=>w_ (B_ X.prog X.w) X.A (f v u) Q X.xe s₂) X.xe s₁) X.xe s:=by refine bL (ha pz s σ H _ I h) fun v s1 ⟨x,H1,I1,r1,q1⟩=>?_;refine bL (hb pz s1 σ H1 _ I1 q1) fun u s2 ⟨y,H2,I2,r2,q2⟩=>?_;exact hf v u s2 x y H2 I2 r1 r2 q2
def Fs{op:Operator}{r:R2}(ho:cu X (Z_ op) r)(ha:PE X a ta)(hb:PE X b tb):PE X (.BinOp a op b pos) (sr r ta tb):=by intro pz s σ H Q I h;exact wpAny_BinOp (nI ha hb I h fun v u s2 x y H2 I2 rx ry q=>ho pz s2 σ H2 x y v u Q I2 rx ry q)
def KO{op:UnaryOp}{r:V->Hp->VK->Prop}(ho:ER X (unaryOp op) r)(ha:PE X a ta):PE X (.UnaryOp op a pos) (UD r ta):=by intro pz s σ H Q I h;exact UnaryOp_ (bL (ha pz s σ H _ I h) fun v s1 ⟨x,H1,I1,r1,q1⟩=>ho pz s1 σ H1 x v Q I1 r1 q1)
def pH{f:Value->Value->Sem Value}{C:Int->Int->Prop}{g:Int->Int->Int}(z:∀(i j:Int)(t u:Tok)(s:h_)(Q:Value->h_->Prop)(E:Value->h_->Prop),C i j->Q (.int (g i j) s.toks) { s with toks:=s.toks+1 }->w_ (B_ X.prog X.w) X.A (f (.int i t) (.int j u)) Q E s):cu X f (rI C fun i j=>.int (g i j)):=by intro pz s σ H x y v u Q I rx ry h;obtain⟨i,j,rfl,rfl,hc,q⟩:=h;obtain⟨t,rfl⟩:=rx;obtain⟨t',rfl⟩:=ry;exact z i j t t' s _ _ hc ⟨.int (g i j),H,I.tok _,⟨_,rfl⟩,q⟩
def sQ{f:Value->Value->Sem Value}{g:Int->Int->Int}(z:∀(i j:Int)(t u:Tok)(s:h_)(Q:Value->h_->Prop)(E:Value->h_->Prop),Q (.int (g i j) s.toks) { s with toks:=s.toks+1 }->w_ (B_ X.prog X.w) X.A (f (.int i t) (.int j u)) Q E s):cu X f (jG fun i j=>.int (g i j)):=by intro pz s σ H x y v u Q I rx ry h;obtain⟨i,j,rfl,rfl,q⟩:=h;obtain⟨t,rfl⟩:=rx;obtain⟨t',rfl⟩:=ry;exact z i j t t' s _ _ ⟨.int (g i j),H,I.tok _,⟨_,rfl⟩,q⟩
def kY{f:Value->Value->Sem Value}{g:Int->Int->Bool}(z:∀(i j:Int)(t u:Tok)(s:h_)(Q:Value->h_->Prop)(E:Value->h_->Prop),Q (.bool (g i j)) s->w_ (B_ X.prog X.w) X.A (f (.int i t) (.int j u)) Q E s):cu X f (jG fun i j=>.bl (g i j)):=by intro pz s σ H x y v u Q I rx ry h;obtain⟨i,j,rfl,rfl,q⟩:=h;obtain⟨t,rfl⟩:=rx;obtain⟨t',rfl⟩:=ry;exact z i j t t' s _ _ ⟨.bl (g i j),H,I,rfl,q⟩
def jb(i j:Int):Prop:=0<j/\j<1073741824
def hJ(i j:Int):Prop:=0<=j/\j<=1000000/\i.natAbs<2^64
def iA(i j:Int):Prop:=(-(2^64)<i/\i<2^64)\/(-(2^64)<j/\j<2^64)
def iA.ok{i j:Int}(h:iA i j):IntMulOk i j:=by
 rcases h with⟨h1,h2⟩|⟨h1,h2⟩
 .exact .of_left (intBits_le_64 h1 h2)
 .exact .of_right (intBits_le_64 h1 h2)
def GL:cu X (Z_ .Add) (jG fun i j=>.int (i+j)):=sQ fun _ _ _ _ _ _ _ q=>add_int q
def MB:cu X (Z_ .Sub) (jG fun i j=>.int (i-j)):=sQ fun _ _ _ _ _ _ _ q=>sub_int q
def My:cu X (Z_ .Mult) (rI iA fun i j=>.int (i*j)):=pH fun _ _ _ _ _ _ _ hc q=>mul_int q hc.ok
def Ov:cu X (Z_ .FloorDiv) (rI jb fun i j=>.int (i/j)):=pH fun i j _ _ _ _ _ hc q=>by have h1:(0:Int)<j:=hc.1;have h2:j<1073741824:=hc.2;exact floordiv_int (by omega) (by rw[QbV i (by omega)];exact q) (.inl (PyProof.noPylong_small (by omega)))
def Mx:cu X (Z_ .Mod) (rI (fun _ j=>0<j) fun i j=>.int (i%j)):=pH fun i j _ _ _ _ _ hc q=>by have h1:(0:Int)<j:=hc;exact mod_int' (by omega) (by rw[Int.fmod_eq_emod_of_nonneg i (by omega)];exact q)
def Mz:cu X (Z_ .Pow) (rI hJ fun i j=>.int (i^j.toNat)):=pH fun _ _ _ _ _ _ _ hc q=>pow_int_small hc.1 hc.2.1 hc.2.2 q
def UC{f:Value->Sem Value}{g:Int->Int}(z:∀(i:Int)(t:Tok)(s:h_)(Q:Value->h_->Prop)(E:Value->h_->Prop),Q (.int (g i) s.toks) { s with toks:=s.toks+1 }->w_ (B_ X.prog X.w) X.A (f (.int i t)) Q E s):ER X f (rU fun i=>.int (g i)):=by intro pz s σ H x v Q I rx h;obtain⟨i,rfl,q⟩:=h;obtain⟨t,rfl⟩:=rx;exact z i t s _ _ ⟨.int (g i),H,I.tok _,⟨_,rfl⟩,q⟩
def NA:ER X (unaryOp .USub) (rU fun i=>.int (-i)):=UC fun _ _ _ _ _ q=>neg_int q
end
def kN:V->V->Bool
|.non,.non=>true|.non,.int _=>true|.int _,.non=>true|.non,.bl _=>true|.bl _,.non=>true|.non,.str _=>true|.str _,.non=>true
|.int _,.int _=>true|.bl _,.bl _=>true|.str _,.str _=>true|.byt _,.byt _=>true
|.int _,.str _=>true|.str _,.int _=>true|.bl _,.str _=>true|.str _,.bl _=>true
|_,_=>false
def Ks:R2:=fun x y H Q=>kN x y=true/\Q (.bl (decide (x=y))) H
def Kr:R2:=fun x y H Q=>kN x y=true/\Q (.bl (! decide (x=y))) H
def A0{i j:Int}:decide (V.int i=V.int j)=(i==j):=by rw[Zc];simp
def zZ{i j:Bool}:decide (V.bl i=V.bl j)=(i==j):=by rw[Zc];simp
def A1{i j:Str}:decide (V.str i=V.str j)=(i==j):=by rw[Zc];simp
def GR{i j:Array UInt8}:decide (V.byt i=V.byt j)=(i.toList==j.toList):=by rw[Zc];cases i;cases j;simp
section
variable{a:Expr}
def dX{pz:List (Addr×Obj)}{σ:St}{H:Hp}{s:h_}{Q:VK}{k k':Bool}(I:Inv X pz σ H s)(q:Q (.bl k) H)(e:k=k'):EP X pz σ Q (.bool k') s:=by subst e;exact⟨.bl k,H,I,rfl,q⟩
def Fv:cu X (Y6 .Eq) Ks:=by intro pz s σ H x y v u Q I rx ry h;obtain⟨hs,q⟩:=h;cases x with
|non=>cases rx;cases y with
 |non=>cases ry;exact PySem.EqNone.eq_none_none (dX I q (by simp))
 |bl j=>cases ry;exact PySem.EqNone.eq_none_bool (dX I q (by simp))
 |int j=>obtain⟨t',rfl⟩:=ry;exact PySem.EqNone.eq_none_int (dX I q (by simp))
 |str j=>obtain⟨t',rfl⟩:=ry;exact PySem.EqNone.eq_none_str (dX I q (by simp))
 |_=>exact absurd (show false=true from hs) k_
|bl i=>cases rx;cases y with
 |non=>cases ry;exact PySem.EqNone.eq_bool_none (dX I q (by simp))
 |bl j=>cases ry;exact eq_bool (dX I q zZ)
 |str j=>obtain⟨t',rfl⟩:=ry;exact Qev (dX I q (by simp))
 |_=>exact absurd (show false=true from hs) k_
|int i=>obtain⟨t,rfl⟩:=rx;cases y with
 |non=>cases ry;exact PySem.EqNone.eq_int_none (dX I q (by simp))
 |int j=>obtain⟨t',rfl⟩:=ry;exact eq_int (dX I q A0)
 |str j=>obtain⟨t',rfl⟩:=ry;exact QeB (dX I q (by simp))
 |_=>exact absurd (show false=true from hs) k_
|str i=>obtain⟨t,rfl⟩:=rx;cases y with
 |non=>cases ry;exact PySem.EqNone.eq_str_none (dX I q (by simp))
 |bl j=>cases ry;exact Qew (dX I q (by simp))
 |int j=>obtain⟨t',rfl⟩:=ry;exact QeC (dX I q (by simp))
 |str j=>obtain⟨t',rfl⟩:=ry;exact eq_str (dX I q A1)
 |_=>exact absurd (show false=true from hs) k_
|byt i=>obtain⟨t,rfl⟩:=rx;cases y with
 |byt j=>obtain⟨t',rfl⟩:=ry;exact W.eq_bytes (dX I q GR)
 |_=>exact absurd (show false=true from hs) k_
|_=>cases y <;> exact absurd (show false=true from hs) k_
def LD:cu X (Y6 .NotEq) Kr:=by intro pz s σ H x y v u Q I rx ry h;obtain⟨hs,q⟩:=h;cases x with
|non=>cases rx;cases y with
 |non=>cases ry;exact PySem.EqNone.ne_none_none (dX I q (by simp))
 |bl j=>cases ry;exact PySem.EqNone.ne_none_bool (dX I q (by simp))
 |int j=>obtain⟨t',rfl⟩:=ry;exact PySem.EqNone.ne_none_int (dX I q (by simp))
 |str j=>obtain⟨t',rfl⟩:=ry;exact PySem.EqNone.ne_none_str (dX I q (by simp))
 |_=>exact absurd (show false=true from hs) k_
|bl i=>cases rx;cases y with
 |non=>cases ry;exact PySem.EqNone.ne_bool_none (dX I q (by simp))
 |bl j=>cases ry;exact ne_bool (dX I q (congrArg not zZ))
 |str j=>obtain⟨t',rfl⟩:=ry;exact Qex (dX I q (by simp))
 |_=>exact absurd (show false=true from hs) k_
|int i=>obtain⟨t,rfl⟩:=rx;cases y with
 |non=>cases ry;exact PySem.EqNone.ne_int_none (dX I q (by simp))
 |int j=>obtain⟨t',rfl⟩:=ry;exact ne_int (dX I q (congrArg not A0))
 |str j=>obtain⟨t',rfl⟩:=ry;exact QeD (dX I q (by simp))
 |_=>exact absurd (show false=true from hs) k_
|str i=>obtain⟨t,rfl⟩:=rx;cases y with
 |non=>cases ry;exact PySem.EqNone.ne_str_none (dX I q (by simp))
 |bl j=>cases ry;exact Qey (dX I q (by simp))
 |int j=>obtain⟨t',rfl⟩:=ry;exact QeE (dX I q (by simp))
 |str j=>obtain⟨t',rfl⟩:=ry;exact ne_str (dX I q (congrArg not A1))
 |_=>exact absurd (show false=true from hs) k_
|byt i=>obtain⟨t,rfl⟩:=rx;cases y with
 |byt j=>obtain⟨t',rfl⟩:=ry;exact W.ne_bytes (dX I q (congrArg not GR))
 |_=>exact absurd (show false=true from hs) k_
|_=>cases y <;> exact absurd (show false=true from hs) k_
def zA:cu X (Y6 .Lt) (jG fun i j=>.bl (decide (i<j))):=kY fun _ _ _ _ _ _ _ q=>lt_int q
def LC:cu X (Y6 .LtE) (jG fun i j=>.bl (decide (i<=j))):=kY fun _ _ _ _ _ _ _ q=>le_int q
def Fw:cu X (Y6 .Gt) (jG fun i j=>.bl (decide (j<i))):=kY fun _ _ _ _ _ _ _ q=>gt_int q
def LB:cu X (Y6 .GtE) (jG fun i j=>.bl (decide (j<=i))):=kY fun _ _ _ _ _ _ _ q=>ge_int q
def Rw:cu X (Y6 .In) (fun x y H Q=>∃i j,x=.str i/\y=.str j/\Q (.bl (!(Z4 j i 0 j.length 1).isEmpty)) H):=by intro pz s σ H x y v u Q I rx ry h;obtain⟨i,j,rfl,rfl,q⟩:=h;obtain⟨t,rfl⟩:=rx;obtain⟨t',rfl⟩:=ry;exact in_str (dX I q rfl)
def Ga:cu X (Y6 .Is) (fun x y H Q=>y=.non/\Q (.bl (decide (x=.non))) H):=by
 intro pz s σ H x y v u Q I rx ry h;obtain⟨rfl,q⟩:=h;cases ry;refine is_none_gen (dX I q ?_);cases x <;> first
  |(cases rx;rfl)
  |(obtain⟨t,rfl⟩:=rx;rfl)
def cu.or{f:Value->Value->Sem Value}{r r':R2}(h:cu X f r)(h':cu X f r'):cu X f (fun x y H Q=>r x y H Q\/r' x y H Q):=by
 intro pz s σ H x y v u Q I rx ry q;rcases q with q|q
 .exact h pz s σ H x y v u Q I rx ry q
 .exact h' pz s σ H x y v u Q I rx ry q
def jA(b:Expr){op:CmpOp}(h:op≠.In:=by decide)(h2:op≠.NotIn:=by decide):Qab op b=false:=by
 have e1:(op==CmpOp.In)=false:=by cases op <;> first|rfl|exact absurd rfl h
 have e2:(op==CmpOp.NotIn)=false:=by cases op <;> first|rfl|exact absurd rfl h2
 cases b <;> simp[Qab,e1,e2]
def PN{op:CmpOp}{r:R2}(ho:cu X (Y6 op) r)(ha:PE X a ta)(hb:PE X b tb)(hm:Qab op b=false):PE X (.Compare a [op] [b] pos) (sr r ta tb):=by intro pz s σ H Q I h;exact wpAny_Compare1 (nI ha hb I h fun v u s2 x y H2 I2 rx ry q=>ho pz s2 σ H2 x y v u Q I2 rx ry q) hm
def Lg(t:TE):TT:=fun σ H Q=>t σ H fun x H'=>∃k,x=.bl k/\Q k H'
def Pq{op:CmpOp}{r:R2}(ho:cu X (Y6 op) r)(ha:PE X a ta)(hb:PE X b tb)(hm:Qab op b=false):PT X (.Compare a [op] [b] pos) (Lg (sr r ta tb)):=by intro pz s σ H Q I h;refine wpAny_isTrue_Compare1 (bL (ha pz s σ H _ I h) fun v s1 ⟨x,H1,I1,r1,q1⟩=>bL (hb pz s1 σ H1 _ I1 q1) fun u s2 ⟨y,H2,I2,r2,q2⟩=>bL (ho pz s2 σ H2 x y v u _ I2 r1 r2 q2) fun c s3 ⟨z,H3,I3,r3,k,e,q3⟩=>?_) hm;subst e;cases r3;exact QaL ⟨H3,I3,q3⟩
def Gx(r r':R2)(ta tb tc:TE):TE:=fun σ H Q=>ta σ H fun x H1=>tb σ H1 fun y H2=>r x y H2 fun z H3=>∃k,z=.bl k /\(if k=true then tc σ H3 fun w' H4=>r' y w' H4 Q else Q (.bl false) H3)
def QQ{op U:CmpOp}{r r':R2}(ho:cu X (Y6 op) r)(ho':cu X (Y6 U) r')(ha:PE X a ta)(hb:PE X b tb)(hc:PE X c tc)(hm:lastMarks [op,U] [b,c]=false:=by with_unfolding_all rfl):PE X (.Compare a [op,U] [b,c] pos) (Gx r r' ta tb tc):=by intro pz s σ H Q I h;refine Compare_chain (bL (ha pz s σ H _ I h) fun v s1 ⟨x,H1,I1,r1,q1⟩=>chain_link (bL (hb pz s1 σ H1 _ I1 q1) fun u s2 ⟨y,H2,I2,r2,q2⟩=>bL (ho pz s2 σ H2 x y v u _ I2 r1 r2 q2) fun d s3 ⟨z,H3,I3,r3,k,e,q3⟩=>?_)) hm;subst e;cases r3;refine QaL ?_;cases k with
|false=>exact ite_ff ⟨.bl false,H3,I3,rfl,q3⟩
|true=>exact ite_tt (chain_last (bL (hc pz s3 σ H3 _ I3 q3) fun w' s4 ⟨z',H4,I4,r4,q4⟩=>ho' pz s4 σ H4 y z' u w' Q I4 r2 r4 q4))
def nK(K:W.Frag)(x:V)(H:Hp)(k:Bool):Prop:=match x with
|.non=>k=false
|.bl b=>k=b
|.int i=>k=(i != 0)
|.str y=>y.length<=sizeLine/\k=((y.length:Int) != 0)
|.byt y=>y.size<=sizeLine/\k=((y.size:Int) != 0)
|.ref p=>(∃xs,cy K H p xs/\k = ! xs.isEmpty)\/(∃xs,dy K H p xs/\k = ! xs.isEmpty)\/∃kvs,Rd H p (.dK kvs)/\k = ! kvs.isEmpty
|_=>False
def SY{κ:Type}{kvs:List (κ×V)}{vs:List (κ×Value)}(r:KV kvs vs):(! vs.isEmpty) = ! kvs.isEmpty:=by cases r <;> rfl
def Js{xs:List V}{its:List Value}(r:aN xs its):(! its.toArray.isEmpty) = ! xs.isEmpty:=by cases r <;> simp
def ox:(sizeLine:Nat)<2^63:=by rw[J_];decide
def Nw:ET X (fun x H Q=>∃k,nK X.K x H k/\Q k H):=by intro pz s σ H x v Q I rx h;obtain⟨k,e,q⟩:=h;have hl:=ox;have hs:sizeLine=16777216:=J_;cases x with
|non=>cases rx;have e':k=false:=e;subst e';exact truthy_none ⟨H,I,q⟩
|bl b=>cases rx;have e':k=b:=e;subst e';exact QaL ⟨H,I,q⟩
|int i=>obtain⟨t,rfl⟩:=rx;have e':k=(i != 0):=e;subst e';exact PySem.P.truthy_int ⟨H,I,q⟩
|str y=>obtain⟨t,rfl⟩:=rx;obtain⟨hy,e'⟩:y.length<=sizeLine/\k=((y.length:Int) != 0):=e;subst e';exact PySem.P.truthy_str (by omega) ⟨H,I.tok _,q⟩
|byt y=>obtain⟨t,rfl⟩:=rx;obtain⟨hy,e'⟩:y.size<=sizeLine/\k=((y.size:Int) != 0):=e;subst e';exact W.truthy_bytes (by omega) ⟨H,I.tok _,q⟩
|ref p=>
  cases rx;have e':(∃xs,cy X.K H p xs/\k = ! xs.isEmpty)\/(∃xs,dy X.K H p xs/\k = ! xs.isEmpty)\/∃kvs,Rd H p (.dK kvs)/\k = ! kvs.isEmpty:=e;rcases e' with⟨xs,hx,e'⟩|⟨xs,hx,e'⟩|⟨kvs,hx,e'⟩
  .subst e';obtain⟨its,r,pl,hz⟩:=I.list hx;have hlen:=r.length;exact wpAny_truthy_list pl.isList (by simp only[u_];omega) ⟨H,I.tok _,by rw[Js r];exact q⟩
  .subst e';obtain⟨its,r,pl,hz⟩:=I.tuple hx;have hlen:=r.length;exact truthy_tuple pl (by simp only[u_];omega) ⟨H,I.tok _,by rw[Js r];exact q⟩
  .subst e';obtain⟨hz,hS,vs,r,m⟩:kvs.length<=sizeLine/\(p==Qar)=false/\∃vs,KV kvs vs/\s.heap.DictOf (ic X.prog X.w) p vs:=hx.ok I.hok;have hlen:kvs.length=vs.length:=Paired.length r;exact wpAny_truthy_dict hS m (by omega) ⟨H,I.tok _,by rw[SY r];exact q⟩
|_=>exact(show False from e).elim
def Qc(ha:PE X a ta)(he:∀whole,isTrue a X.env whole=(do let v <-whole;Qca a.pos;Qam [v] (truthy v))):PT X a (fun σ H Q=>ta σ H fun x H'=>∃k,nK X.K x H' k/\Q k H'):=by intro pz s σ H Q I h;exact isTrue_plain (bL (ha pz s σ H _ I h) fun v s1 ⟨x,H1,I1,r1,q1⟩=>Nw pz s1 σ H1 x v Q I1 r1 q1) (he _)
def Ju:cu X (Z_ .Add) (fun x y H Q=>∃i j,x=.str i/\y=.str j/\i.length+j.length<=sizeLine/\Q (.str (i++j)) H):=by intro pz s σ H x y v u Q I rx ry h;obtain⟨i,j,rfl,rfl,hz,q⟩:=h;obtain⟨t,rfl⟩:=rx;obtain⟨t',rfl⟩:=ry;exact add_str (fun t' tk=>⟨.str (i++j),H,I.tok _,⟨_,rfl⟩,q⟩) hz
def cY{x:V}{us:List Value}(r:aN [x] us):∃u,us=[u]/\aS x u:=by cases r with
|cons r1 r2=>cases r2;exact⟨_,rfl,r1⟩
def uF{x y:V}{us:List Value}(r:aN [x,y] us):∃u w',us=[u,w']/\aS x u/\aS y w':=by cases r with
|cons r1 r2=>cases r2 with
 |cons r3 r4=>cases r4;exact⟨_,_,rfl,r1,r3⟩
def PV:gp X (.builtin "abs") (fun xs H Q=>∃i,xs=[.int i]/\Q (.int (if i<0 then-i else i)) H):=by intro pz s σ H xs us Q I r h;obtain⟨i,rfl,q⟩:=h;obtain⟨u,rfl,t,rfl⟩:=cY r;exact call_abs_int fun u tk=>⟨.int (if i<0 then-i else i),H,I.tok _,⟨_,rfl⟩,q⟩
def tm(K:W.Frag)(x:V)(H:Hp)(n:Nat):Prop:=match x with
|.str y=>y.length<=sizeLine/\n=y.length
|.byt y=>y.size<=sizeLine/\n=y.size
|.ref p=>(∃xs,cy K H p xs/\n=xs.length)\/∃xs,dy K H p xs/\n=xs.length
|_=>False
def P3:gp X (.builtin "len") (fun xs H Q=>∃x n,xs=[x]/\tm X.K x H n/\Q (.int n) H):=by intro pz s σ H xs us Q I r h;obtain⟨x,n,rfl,e,q⟩:=h;obtain⟨u,rfl,rx⟩:=cY r;have hl:=ox;have hs:sizeLine=16777216:=J_;cases x with
|str y=>obtain⟨t,rfl⟩:=rx;obtain⟨hy,e'⟩:y.length<=sizeLine/\n=y.length:=e;subst e';exact len_str (by omega) ⟨.int _,H,I.tok _,⟨_,rfl⟩,q⟩
|byt y=>obtain⟨t,rfl⟩:=rx;obtain⟨hy,e'⟩:y.size<=sizeLine/\n=y.size:=e;subst e';exact W.len_bytes (by omega) ⟨.int _,H,I.tok _,⟨_,rfl⟩,q⟩
|ref p=>
  cases rx;have e':(∃xs,cy X.K H p xs/\n=xs.length)\/∃xs,dy X.K H p xs/\n=xs.length:=e;rcases e' with⟨xs,hx,e'⟩|⟨xs,hx,e'⟩
  .subst e';obtain⟨its,r',pl,hz⟩:=I.list hx;have hlen:=r'.length;exact Calls.call_len_list pl.isList (by simp only[u_];omega) ⟨.int xs.length,H,I.tok _,⟨_,by simp only[u_];rw[hlen]⟩,q⟩
  .subst e';obtain⟨its,r',pl,hz⟩:=I.tuple hx;have hlen:=r'.length;exact len_tuple pl (by simp only[u_];omega) ⟨.int xs.length,H,I.tok _,⟨_,by simp only[u_];rw[hlen]⟩,q⟩
|_=>exact(show False from e).elim
end
structure ObjM(h:Heap)(x dx C:Addr)(mA:Str->Option Value):Prop where
 obj:h.get? x=some (W.instObj C dx)
 ns:h.Ns1 dx mA
 ne:dx≠x
def RK{h:Heap}{dx:Addr}{mA:Str->Option Value}(n:h.Ns1 dx mA):∃od,h.get? dx=some od/\∀name,W.lookIn name od=some (mA name):=by
 obtain⟨o,es,ep,ho,hd,hk,_,hm⟩:=n;refine⟨o,ho,fun name=>?_⟩;have e:=hm name;unfold nsFind findBy at e;rw[<-Qdg]at e;unfold W.lookIn;rw[hd]
 dsimp only
 split
 .rename_i y q;rw[q]at e;exact congrArg some e
 .rename_i q;rw[q]at e;have a:es.toList.any (·.refKey)=false:=by rw[List.any_eq_false];intro y hy;obtain⟨z,t,U⟩:=hk y (Array.mem_toList_iff.mp hy);simp[DictEntry.refKey,U]
  have a':¬ es.toList.any (·.refKey)=true:=by rw[a];exact k_
  rw[if_neg a'];exact congrArg some e
def ObjM.look{h:Heap}{x dx C:Addr}{mA:Str->Option Value}(I:ObjM h x dx C mA):∃od,W.InstAt h x (W.instObj C dx) C (some od)/\∀name,W.lookIn name od=some (mA name):=let⟨od,ho,hl⟩:=RK I.ns
 ⟨od,⟨I.obj,rfl,rfl,ho⟩,hl⟩
variable{A:W_}{dx C f:Addr}
section
variable{prog:C_}{K:W.Frag}{x:Addr}{mA:Str->Option Value}{name:Str}{v:Value}
def OS{z:Bool}{Q:Value->h_->Prop}(X:K.In s.heap)(I:ObjM s.heap x dx C mA)(hg:W.plainGet K C name=true)(hh:W.hasDictIn K C=true)(ha:W.findIn K (.ref C) name=some none)(hv:mA name=some v)(U:W.handedIn v=true)(h:Q v { s with toks:=s.toks+1 }):w_ (B_ prog w) A (getAttr (.ref x) name z) Q E s:=by obtain⟨od,J,hl⟩:=I.look;exact W.get_value X J (W.plainGet_of hg).1 (W.findObj_own hh ha rfl (by rw[hl,hv])) U h
def QV{pl:Sem Bool}{Q:Value×List Value->h_->Prop}(X:K.In s.heap)(I:ObjM s.heap x dx C mA)(hg:W.plainGet K C name=true)(hf:W.findIn K (.ref C) name=some (some (.ref f)))(ht:W.isFn K (.ref f)=true)(hv:mA name=none)(h:Q (.ref f,[.ref x]) s):w_ (B_ prog w) A (QcX (.ref x) name pl) Q E s:=by obtain⟨od,J,hl⟩:=I.look;exact W.method_fn X J (W.plainGet_of hg).1 (W.plainGet_of hg).2 hf (beq_iff_eq.mp ht) (by show(W.lookIn name od).map (·.isSome)=some false;rw[hl,hv];rfl) h
def O4{ns:List Str}{Q:Unit->h_->Prop}(X:K.In s.heap)(I:ObjM s.heap x dx C mA)(hs:W.findIn K (.ref C) "__setattr__" = some (some (.builtin "object.__setattr__")))(hp:W.plainOver K C=true)(ht:W.takerIn K C name=some none)(hh:W.hasDictIn K C=true)(hw:Qdn mA ns)(hsz:ns.length<=sizeLine)(h:∀h',ObjM h' x dx C (fun y=>if y=name then some v else mA y)->Qbg dx s.heap h'->Q () { s with heap:=h',toks:=s.toks+2 }):w_ (B_ prog w) A (setAttr (.ref x) name v) Q E s:=by obtain⟨od,J,hl⟩:=I.look;refine W.set_plain X J hs (W.osa_open (s:={ s with toks:=s.toks+1 }) (r:=none) X J hp ht fun b=>?_);obtain⟨cd,hc,ld⟩:=W.any_some hh;have hx:s.heap.get? x=some ⟨.ref C,some dx,.plain,#[]⟩:=I.obj;refine a_ (n_ (a_ (a_ (QbW hx (a_ (W.Looks.here (s:={ s with toks:=s.toks+1 }) (W.looks_clsIn X hc) ?_))))));rw[ld];refine n_ (a:=some dx) (a_ (n_ (a_ ?_)));refine wpAny_nsSet1 (s:={ s with toks:=s.toks+1 }) I.ns fun h' z U=>?_;obtain⟨oD,Id,Cl,Z,BT,Y⟩:=z.count (PySem.Within.cons name v hw);refine a_ (wpAny_lookBehind Z (by rw[BT];exact pastItsLine_dict (Y8 Y (by rw[T_];omega))) ?_);exact n_ (h _ ⟨(U.2 _ (ZP I.ne)).trans I.obj,z,I.ne⟩ U)
def QA{R:Qej->h_->Prop}{vs:List Value}{kw:List (Str×Value)}(X:K.In s.heap)(hm:W.makesIn K C=true)(hi:W.findIn K (.ref C) "__init__" = some (some (.ref f)))(hf:W.typeIn K (.ref f)=some (.type "function"))(h:QbA (B_ prog w) (A.under (.builtin "type.__call__" ⟨.ref C::vs,kw⟩)) (.call (.ref f) ⟨.ref (s.heap.objs.size+1)::vs,kw⟩) (W.InitBack (s.heap.objs.size+1) R)
   { s with heap:=(s.heap.push W.emptyDict).push (W.instObj C s.heap.objs.size) }):QbA (B_ prog w) A (.call (.ref C) ⟨vs,kw⟩) R s:=by obtain⟨hh,g,d,t,os⟩:=s;exact W.make_core (W.makes_of X hm) (W.looks_findIn X hi) (fun self=>W.bind_fn X self hf) (.inl rfl) h
end
def putF(f:Str)(v:V):List (Str×V)->List (Str×V)
|[]=>[(f,v)]
|(g,x)::r=>if g=f then(g,v)::r else(g,x)::putF f v r
def JZ(f g:Str)(v:V):∀fs:List (Str×V),(putF f v fs).lookup g=if g=f then some v else fs.lookup g
|[]=>by
  show ZZ g [(f,v)]=_;by_cases h:g=f
  .have hb:(g==f)=true:=beq_iff_eq.mpr h;simp only[ZZ,hb,if_pos h]
  .have hb:(g==f)=false:=beq_eq_false_iff_ne.mpr h;simp only[ZZ,hb,if_neg h]
|(k,x)::r=>by
  have ih:=JZ f g v r;rw[show putF f v ((k,x)::r)=(if k=f then(k,v)::r else(k,x)::putF f v r)from rfl];by_cases hk:k=f
  .rw[if_pos hk];by_cases h:g=k
   .have hb:(g==k)=true:=beq_iff_eq.mpr h;simp only[ZZ,hb,if_pos (h.trans hk)]
   .have hb:(g==k)=false:=beq_eq_false_iff_ne.mpr h;simp only[ZZ,hb,if_neg (fun e:g=f=>h (e.trans hk.symm))]
  .rw[if_neg hk];by_cases h:g=k
   .have hb:(g==k)=true:=beq_iff_eq.mpr h;simp only[ZZ,hb,if_neg (fun e:g=f=>hk (h.symm.trans e))]
   .have hb:(g==k)=false:=beq_eq_false_iff_ne.mpr h;simp only[ZZ,hb];exact ih
def BR(f:Str)(v:V):∀fs:List (Str×V),f∈(putF f v fs).map (·.1)/\∀g,g∈fs.map (·.1)->g∈(putF f v fs).map (·.1)
|[]=>⟨by simp[putF],fun g h=>by simp at h⟩
|(k,x)::r=>by
  obtain⟨i1,i2⟩:=BR f v r;rw[show putF f v ((k,x)::r)=(if k=f then(k,v)::r else(k,x)::putF f v r)from rfl];by_cases hk:k=f
  .rw[if_pos hk];subst hk;exact⟨by simp,fun g h=>by simpa using h⟩
  .rw[if_neg hk];refine⟨?_,fun g h=>?_⟩
   .rw[U_];exact m_ _ i1
   .rw[U_]at h ⊢;rcases e_.mp h with e|e
    .exact List.mem_cons.mpr (.inl e)
    .exact m_ _ (i2 g e)
def JX(f:Str)(v:V):∀fs:List (Str×V),(putF f v fs).length<=fs.length+1
|[]=>by simp[putF]
|(k,x)::r=>by
  have ih:=JX f v r;rw[show putF f v ((k,x)::r)=(if k=f then(k,v)::r else(k,x)::putF f v r)from rfl];by_cases hk:k=f
  .rw[if_pos hk,T_,T_];omega
  .rw[if_neg hk,T_,T_];omega
def dN.some_of{v:V}{o:Option Value}(r:dN (some v) o):∃u,o=some u/\aS v u:=by cases o with
|none=>exact(show False from r).elim
|some u=>exact⟨u,rfl,r⟩
def dN.none_of{o:Option Value}(r:dN none o):o=none:=by cases o with
|none=>rfl
|some u=>exact(show False from r).elim
def Q9{v:V}{u:Value}(r:aS v u):W.handedIn u=true:=by cases v with
|non=>cases(show u=Value.none from r);rfl
|bl b=>cases(show u=Value.bool b from r);rfl
|int i=>obtain⟨t,e⟩:=(show ∃t,u=Value.int i t from r);cases e;rfl
|str x=>obtain⟨t,e⟩:=(show ∃t,u=Value.str x t from r);cases e;rfl
|byt b=>obtain⟨t,e⟩:=(show ∃t,u=Value.bytes b t from r);cases e;rfl
|flt b=>obtain⟨t,e⟩:=(show ∃t,u=Value.float b t from r);cases e;rfl
|ref a=>cases(show u=Value.ref a from r);rfl
|ty n=>cases(show u=Value.type n from r);rfl
section
variable{fs fs':List (Str×V)}
def A4(hok:dH P w H h)(e:H a=some (.ins C dx fs)):∃mA,ObjM h a dx C mA/\(∀f,dN (fs.lookup f) (mA f))/\Qdn mA (fs.map (·.1))/\fs.length<=1000/\H dx=some (.own a):=by
 obtain⟨d,z,ne,ob,mA,n,r,q⟩:=(show du P w H h a (.ins C dx fs)from hok a _ e)
 exact⟨mA,⟨ob,n,ne⟩,r,q,z,d⟩
end
structure Cls(K:W.Frag)(C:Addr):Prop where
 pg:W.plainGet K C Qbc=true
 hd:W.hasDictIn K C=true
 po:W.plainOver K C=true
 sa:W.findIn K (.ref C) "__setattr__" = some (some (.builtin "object.__setattr__"))
def Cls.get{K:W.Frag}{C:Addr}(c:Cls K C)(f:Str):W.plainGet K C f=true:=c.pg
def kn(K:W.Frag)(C:Addr)(f:Str):Prop:=W.findIn K (.ref C) f=some none
def kn.taker{K:W.Frag}{C:Addr}{f:Str}(n:kn K C f):W.takerIn K C f=some none:=by unfold W.takerIn;rw[show W.findIn K (.ref C) f=some none from n];rfl
structure Meth(K:W.Frag)(C:Addr)(m:Str)(f:Addr):Prop where
 at_:W.findIn K (.ref C) m=some (some (.ref f))
 fn:W.isFn K (.ref f)=true
 kp:W.keepIn K (.ref f)=true
section
variable{fs:List (Str×V)}{f:Str}{v:V}
def SU{b:Bool}{Q:Value->h_->Prop}(I:Inv X pz σ H s)(e:H a=some (.ins C dx fs))(c:Cls X.K C)(n:kn X.K C f)(l:fs.lookup f=some v)(h:∀u s',Inv X pz σ H s'->aS v u->Q u s'):w_ (B_ X.prog X.w) A (getAttr (.ref a) f b) Q E s:=by obtain⟨mA,O,r,_,_,_⟩:=A4 I.hok e;obtain⟨u,hu,ru⟩:=dN.some_of (v:=v) (o:=mA f) (by rw[<-l];exact r f);exact OS I.kIn O (c.get f) c.hd n hu (Q9 ru) (h u _ (I.tok _) ru)
def SV{m:Str}{g:Addr}{pl:Sem Bool}{Q:Value×List Value->h_->Prop}(I:Inv X pz σ H s)(e:H a=some (.ins C dx fs))(c:Cls X.K C)(k:Meth X.K C m g)(l:fs.lookup m=none)(h:Q (.ref g,[.ref a]) s):w_ (B_ X.prog X.w) A (QcX (.ref a) m pl) Q E s:=by obtain⟨mA,O,r,_,_,_⟩:=A4 I.hok e;have hn:mA m=none:=dN.none_of (by rw[<-l];exact r m);exact QV I.kIn O (c.get m) k.at_ k.fn hn h
def SL{y:V}{u:Value}{Q:Unit->h_->Prop}(I:Inv X pz σ H s)(e:H a=some (.ins C dx fs))(c:Cls X.K C)(n:kn X.K C f)(hl:fs.length<1000)(ry:aS y u)(h:∀s',Inv X pz σ (upd H a (.ins C dx (putF f y fs))) s'->Q () s'):w_ (B_ X.prog X.w) A (setAttr (.ref a) f u) Q E s:=by
 obtain⟨mA,O,r,wi,_,ho⟩:=A4 I.hok e;have hz:(fs.map (·.1)).length<=sizeLine:=by rw[q_,J_];omega
 refine O4 I.kIn O c.sa c.po n.taker c.hd wi hz fun h' O' sb=>h _ ?_;have hd:∃o,h'.get? dx=some o:=let⟨o,_,_,e',_⟩:=O'.ns;⟨o,e'⟩;refine I.write (x:=a) (e:=dx) (by rw[e];exact True.intro) (.inr ho) (fun b q hb z=>(sb.2 b hb).trans z) hd ?_;refine⟨by rw[bX O.ne];exact ho,?_,O.ne,O'.obj,_,O'.ns,fun g=>?_,fun g hg=>?_⟩
 .have:=JX f y fs;omega
 .show dN ((putF f y fs).lookup g) (if g=f then some u else mA g);rw[JZ];by_cases q:g=f
  .rw[if_pos q,if_pos q];exact ry
  .rw[if_neg q,if_neg q];exact r g
 .by_cases q:g=f
  .rw[q];exact(BR f y fs).1
  .refine(BR f y fs).2 g (wi g fun z=>hg ?_);show(if g=f then some u else mA g)=none;rw[if_neg q];exact z
def Inv.made(I:Inv X pz σ H s):Inv X pz σ (upd (upd H s.heap.objs.size (.own (s.heap.objs.size+1))) (s.heap.objs.size+1) (.ins C s.heap.objs.size []))
  { s with heap:=(s.heap.push W.emptyDict).push (W.instObj C s.heap.objs.size) }:=by
 have e1:(s.heap.push W.emptyDict).get? s.heap.objs.size=some W.emptyDict:=t_ s.heap rfl;have e2:((s.heap.push W.emptyDict).push (W.instObj C s.heap.objs.size)).get? (s.heap.objs.size+1)=some (W.instObj C s.heap.objs.size):=by have:=t_ (s.heap.push W.emptyDict) (o:=W.instObj C s.heap.objs.size) rfl;rwa[Zj]at this
 have e3:(s.heap.push W.emptyDict).Ns s.heap.objs.size (fun _=>none):=⟨W.emptyDict,#[],_,e1,rfl,(fun e he=>absurd he (by simp)),fun _=>rfl⟩
 have I1:=I.laid (a:=s.heap.objs.size) (o:=.own (s.heap.objs.size+1)) (h':=s.heap.push W.emptyDict) (t':=s.toks) (fun b u q=>c_ _ q) (y_ _) ⟨_,e1⟩;refine I1.laid (a:=s.heap.objs.size+1) (o:=.ins C s.heap.objs.size []) (t':=s.toks) (fun b u q=>c_ _ q) (Qbj (Zj _ _)) ?_;have ne:s.heap.objs.size≠s.heap.objs.size+1:=G_ (ZT _);refine⟨by rw[bX ne,cQ],Zf _,ne,e2,fun _=>none,(Qdr e3).at fun o q=>c_ _ q,fun _=>True.intro,fun y hy=>absurd rfl hy⟩
def Oy{prog:C_}{w:N_}{env:Env}{e:Expr}{f:Str}{pos:Pos}{s:h_}{Q:Value->h_->Prop}(hb:Qac e f env (eval e env)=eval e env)(h:w_ (B_ prog w) A (eval e env) (fun o s₁=>w_ (B_ prog w) A (getAttr o f true) Q E s₁) E s):w_ (B_ prog w) A (eval (.Attribute e f pos) env) Q E s:=Attribute_any_ h (by rw[arm_eval_Attribute,hb])
end
def Ef(K:W.Frag)(ta:TE)(f:Str):TE:=fun σ H Q=>ta σ H fun x H1=>∃a C dx fs v,x=.ref a/\H1 a=some (.ins C dx fs)/\Cls K C/\kn K C f/\fs.lookup f=some v/\Q v H1
def Er(K:W.Frag)(ta tv:TE)(f:Str):TS:=fun D σ H=>tv σ H fun y H1=>ta σ H1 fun x H2=>∃a C dx fs,x=.ref a/\H2 a=some (.ins C dx fs)/\Cls K C/\kn K C f/\fs.length<1000 /\D.nx σ (upd H2 a (.ins C dx (putF f y fs)))
section
variable{o value:Expr}{f:Str}{pos' tpos:Pos}{tv:TE}
def ME(he:PE X e ta)(hb:Qac e f X.env (eval e X.env)=eval e X.env):PE X (.Attribute e f pos) (Ef X.K ta f):=by intro pz s σ H Q I h;refine Oy hb (bL (he pz s σ H _ I h) fun u s1 ⟨x,H1,I1,rx,a,C,dx,fs,v,ex,ea,c,n,l,q⟩=>?_);subst ex;obtain rfl:u=Value.ref a:=rx;exact SU I1 ea c n l fun u' s2 I2 ru=>⟨v,H1,I2,ru,q⟩
def MR(ha:PE X o ta)(hv:PE X value tv)(hs:Qaw value (some (.Attribute o f pos')) pos.line X.env=pure false):PS X (.Assign [.Attribute o f pos'] value pos) (Er X.K ta tv f):=by intro pz s σ H D I h;refine Qbs (bL (hv pz s σ H _ I h) fun u s1 ⟨y,H1,I1,ry,q⟩=>bL (ha pz s1 σ H1 _ I1 q) fun ov s2 ⟨x,H2,I2,rx,a,C,dx,fs,ex,ea,c,n,l,q2⟩=>?_) hs;subst ex;obtain rfl:ov=Value.ref a:=rx;exact SL I2 ea c n l ry fun s3 I3=>⟨σ,_,I3,q2⟩
def S0{pl:Sem Bool}{m:Str}{apos:Pos}{args:List Expr}{pz:List (Addr×Obj)}{s:h_}{σ:St}{H:Hp}{Q:Value->h_->Prop}{te:TE}(he:PE X e te)(I:Inv X pz σ H s)(h:te σ H fun x H1=>∃a C dx fs g,x=.ref a/\H1 a=some (.ins C dx fs)/\Cls X.K C/\Meth X.K C m g/\fs.lookup m=none /\∀s1,Inv X pz σ H1 s1->w_ (B_ X.prog X.w) X.A (Qek pos (.ref g) [.ref a] (backTo pos (f_ args X.env)) (QbX pos (QaP [] X.env))) Q X.xe s1)(ht:eval (.Call (.Attribute e m apos) args [] pos) X.env=(do
   let ov <-eval e X.env
   Qca apos.atName
   let(f,first) <-Qam [ov] (QcX ov m pl)
   Qek pos f first (backTo pos (f_ args X.env)) (QbX pos (QaP [] X.env)))):w_ (B_ X.prog X.w) X.A (eval (.Call (.Attribute e m apos) args [] pos) X.env) Q X.xe s:=by refine W.methodCall_KW (pl:=pl) (bL (he pz s σ H _ I h) fun u s1 ⟨x,H1,I1,rx,a,C,dx,fs,g,ex,ea,c,k,l,q⟩=>?_) ht;subst ex;obtain rfl:u=Value.ref a:=rx;exact SV I1 ea c k l (q s1 I1)
end
structure Room(k:Nat)(A:W_):Prop where
 hd:A.handled=none
 dp:A.depth+3*k+5<recursionLimit
 un:A.units+16*k+200<Qag
 gd:A.guards=some []
def Room.mono{j k:Nat}{A:W_}(r:Room k A)(h:j<=k):Room j A:=⟨r.hd,by have:=r.dp;omega,by have:=r.un;omega,r.gd⟩
def Room.deeper{k:Nat}{A:W_}(r:Room (k+1) A)(env:Env):Room k (A.deeper env):=⟨r.hd,by have:=r.dp;show A.depth+1+3*k+5<_;omega,by have:=r.un;show A.units+3+16*k+200<_;omega,r.gd⟩
def SZ{A:W_}{C:Addr}{us:List Value}{kw:List (Str×Value)}:(A.under (.builtin "type.__call__" ⟨.ref C::us,kw⟩)).depth=A.depth+1:=by first|rfl|simp[Qcq,Code.weight,Code.isCreation,QeK,Code.isCaller,Code.frames,Qds,guardIds]
def So{A:W_}{C:Addr}{us:List Value}{kw:List (Str×Value)}:(A.under (.builtin "type.__call__" ⟨.ref C::us,kw⟩)).units=A.units+1:=by first|rfl|simp[Qcq,Code.cUnits,Code.frames,Qds]
def Room.make{k:Nat}{A:W_}(r:Room (k+1) A)(C:Addr)(us:List Value)(kw:List (Str×Value)):Room k (A.under (.builtin "type.__call__" ⟨.ref C::us,kw⟩)):=⟨r.hd,by have:=r.dp;rw[SZ];omega,by have:=r.un;rw[So];omega,(by have:=r.gd;first|exact this|(simp[Qcq,QeK,guardIds];exact this))⟩
def Room.depth{k:Nat}{A:W_}(r:Room k A):A.depth<recursionLimit:=by have:=r.dp;omega
def Room.units{k:Nat}{A:W_}(r:Room k A):A.units+64<Qag:=by have:=r.un;omega
def ss:TA:=fun _ H Q=>Q [] H
def zP(ta:TE)(tr:TA):TA:=fun σ H Q=>ta σ H fun x H1=>tr σ H1 fun xs H2=>Q (x::xs) H2
variable{t:TA}{es:List Expr}
def iE:PA X [] ss:=fun _ _ _ _ H Q I h=>Qdt ⟨[],H,I,.nil,h⟩
def fO(ha:PE X e te)(hr:PA X es t)(hs:f_ (e::es) X.env=(false,eval e X.env)::f_ es X.env:=by rfl):PA X (e::es) (zP te t):=by intro pos pz s σ H Q I h;rw[hs];show w_ _ _ (spliced ((false,eval e X.env)::backTo pos (f_ es X.env))) _ _ s;refine Qdh (bL (ha pz s σ H _ I h) fun u s1 ⟨x,H1,I1,r1,q1⟩=>?_);exact bL (hr pos pz s1 σ H1 _ I1 q1) fun us s2 ⟨xs,H2,I2,r2,q2⟩=>⟨x::xs,H2,I2,.cons r1 r2,q2⟩
def D8(t:TA):TE:=fun σ H Q=>t σ H fun xs H1=>xs.length<=sizeLine/\∀p,H1 p=none->Q (.ref p) (upd H1 p (.tup xs))
def Eb(t:TA):TE:=fun σ H Q=>t σ H fun xs H1=>xs.length<=sizeLine/\∀p,H1 p=none->Q (.ref p) (upd H1 p (.lst xs))
def Gf{x1}(h:PA X es t):PE X (.Tuple es x1 pos) (D8 t):=by intro pz s σ H Q I hq;refine wpAny_Tuple_spliced (bL (h pos pz s σ H _ I hq) fun us s1 ⟨xs,H1,I1,r,z,q⟩=>⟨by rw[<-r.length];exact z,?_⟩);have hf:H1 s1.heap.objs.size=none:=I1.hok.fresh (y_ _);refine⟨.ref s1.heap.objs.size,upd H1 s1.heap.objs.size (.tup xs),I1.laid (t':=s1.toks) (fun b u e=>c_ _ e) (y_ _) ?_,rfl,q _ hf⟩;exact⟨z,us,r,⟨_,t_ _ rfl,rfl,_,rfl⟩,_,t_ _ rfl,rfl⟩
def Al(h:PA X es t):PE X (.List es pos) (Eb t):=by intro pz s σ H Q I hq;refine wpAny_List_spliced (bL (h pos pz s σ H _ I hq) fun us s1 ⟨xs,H1,I1,r,z,q⟩=>⟨by rw[<-r.length];exact z,?_⟩);have hf:H1 s1.heap.objs.size=none:=I1.hok.fresh (y_ _);refine⟨.ref s1.heap.objs.size,upd H1 s1.heap.objs.size (.lst xs),I1.laid (t':=s1.toks) (fun b u e=>c_ _ e) (y_ _) ?_,rfl,q _ hf⟩;exact⟨z,us,0,r,t_ _ rfl⟩
abbrev Sp:=List V->Hp->VK->XK->Prop
abbrev ja:=List Env->Hp->h_->XK->Value->h_->Prop
structure Env0(P:C_)(w:N_)(K:W.Frag)(mg:Str->Option Value)(base:Heap)(A:W_)(outer:List Env)(s:h_)(H:Hp):Prop where
 frames:A.frames=some outer
 mod:Mod K mg base
 bs:∀b o,base.get? b=some o->s.heap.get? b=some o/\H b=none
 bsz:base.objs.size<=s.heap.objs.size
 funs:s.heap.FunFrames base outer
 frf:∀b∈dJ outer,H b=none
 hok:dH P w H s.heap
 bare:Qbf s.gens
def CE(outer:List Env)(P:C_)(w:N_)(H:Hp)(s:h_)(Q:VK)(u:Value)(s':h_):Prop:=∃v H',s'.os=s.os/\Qbf s'.gens/\Un (dJ outer) [] H H' s.heap s'.heap/\dH P w H' s'.heap/\aS v u/\Q v H'
def CR(CX:ja)(outer:List Env)(P:C_)(w:N_)(H:Hp)(s:h_)(Q:VK)(E:XK)(r:Qej)(s':h_):Prop:=match r with
|.ok (.ret u)=>CE outer P w H s Q u s'
|.ok _=>False
|.error e=>CX outer H s E e s'
structure FnOk(P:C_)(w:N_)(K:W.Frag)(mg:Str->Option Value)(base:Heap)(CX:ja)(k:Nat)(f:Addr)(fd:Zt)(ps:List Str)(sp:Sp):Prop where
 len:∀vs H Q E,sp vs H Q E->vs.length=ps.length
 run:∀(A:W_)(outer:List Env)(s:h_)(H:Hp)(args:Args)(us:List Value)(vs:List V)(Q:VK)(E:XK),Room k A->Env0 P w K mg base A outer s H->Qdu s fd args (ps.zip us)->aN vs us->sp vs H Q E ->QbA (B_ P w) A (.call (.ref f) args) (CR CX outer P w H s Q E) s
def FnOk.mono{P:C_}{w:N_}{K:W.Frag}{mg:Str->Option Value}{base:Heap}{CX:ja}{j k:Nat}{f:Addr}{fd:Zt}{ps:List Str}{sp:Sp}(F:FnOk P w K mg base CX j f fd ps sp)(h:j<=k):FnOk P w K mg base CX k f fd ps sp:=⟨F.len,fun A outer s H args us vs Q E hr=>F.run A outer s H args us vs Q E (hr.mono h)⟩
def FnOk.imp{P:C_}{w:N_}{K:W.Frag}{mg:Str->Option Value}{base:Heap}{CX:ja}{k:Nat}{f:Addr}{fd:Zt}{ps:List Str}{sp z:Sp}(F:FnOk P w K mg base CX k f fd ps sp)(h:∀vs H Q E,z vs H Q E->sp vs H Q E):FnOk P w K mg base CX k f fd ps z:=⟨fun vs H Q E q=>F.len vs H Q E (h _ _ _ _ q),fun A outer s H args us vs Q E hr he hb hv hs=>F.run A outer s H args us vs Q E hr he hb hv (h _ _ _ _ hs)⟩
def Env0.make{P:C_}{w:N_}{K:W.Frag}{mg:Str->Option Value}{base:Heap}{A:W_}{outer:List Env}{s:h_}{H:Hp}(e:Env0 P w K mg base A outer s H)(C:Addr)(us:List Value)(kw:List (Str×Value)):Env0 P w K mg base (A.under (.builtin "type.__call__" ⟨.ref C::us,kw⟩)) outer s H:=⟨by first|exact e.frames|(simpa[Qcq,Code.envs,Qds,pushEnvs]using e.frames),e.mod,e.bs,e.bsz,e.funs,e.frf,e.hok,e.bare⟩
section
variable{s':h_}
def Inv.env0(I:Inv X pz σ H s):Env0 X.prog X.w X.K X.mg X.base X.A X.stack s H:=⟨I.ok.frames,I.ok.mod,I.bs,Y8 I.ok.bsz I.sz,I.stack,I.stkFree,I.hok,I.bare⟩
def Inv.after{Q:VK}{u:Value}(I:Inv X pz σ H s)(h:CE X.stack X.prog X.w H s Q u s'):EP X pz σ Q u s':=by obtain⟨v,H',os,bare,un,hok,r,q⟩:=h;obtain⟨hh,g,d,t,U⟩:=s';obtain rfl:U=s.os:=os;exact⟨v,H',I.call (h':=hh) (g':=g) (d':=d) (t':=t) (ch:=[]) un hok bare (fun b z=>absurd z (by simp)),r,q⟩
end
def Lb(sp:Sp)(dvs:List V)(E:XK)(t:TA):TE:=fun σ H Q=>t σ H fun vs H1=>sp (vs++dvs) H1 Q E
def Lc(C:Addr)(sp:Sp)(dvs:List V)(E:XK)(t:TA):TE:=fun σ H Q=>t σ H fun vs H1=>∀x dx,H1 x=none->H1 dx=none->dx≠x ->sp (.ref x::(vs++dvs)) (upd (upd H1 dx (.own x)) x (.ins C dx [])) (fun v H2=>v=.non/\Q (.ref x) H2) E
def hU(K:W.Frag)(fd:Zt)(ps:List Str)(ds:List Value):Prop:=∀(s:h_)(us:List Value),K.In s.heap->(us++ds).length=ps.length->Qdu s fd ⟨us,[]⟩ (ps.zip (us++ds))
def hU.all{K:W.Frag}{fd:Zt}{ps:List Str}(h:∀us:List Value,us.length=ps.length->Qbk fd ⟨us,[]⟩=pure (ps.zip us)):hU K fd ps []:=fun s us _ hl=>by rw[Zl]at hl ⊢;exact .of_eq (h us hl)
def qc(CX:ja)(X:Cx)(E:XK):Prop:=∀(pz:List (Addr×Obj))(σ:St)(H:Hp)(s:h_)(e:Value)(s':h_),Inv X pz σ H s->CX X.stack H s E e s'->X.xe e s'
variable{p:Pos}
section
variable{CX:ja}{k:Nat}{fd:Zt}{ps:List Str}{sp:Sp}{dvs:List V}{ds:List Value}{E:XK}{x m:Str}{apos:Pos}{o:Expr}
def Gn{pz:List (Addr×Obj)}{σ:St}{H:Hp}{s:h_}{Q:VK}{us:List Value}{vs:List V}(F:FnOk X.prog X.w X.K X.mg X.base CX k f fd ps sp)(hr:Room k X.A)(hb:hU X.K fd ps ds)(hd:aN dvs ds)(hx:qc CX X E)(I:Inv X pz σ H s)(r:aN vs us)(h:sp (vs++dvs) H Q E):w_ (B_ X.prog X.w) X.A (call (.ref f) us) (EP X pz σ Q) X.xe s:=by
 have r2:aN (vs++dvs) (us++ds):=r.append hd;have hl:(us++ds).length=ps.length:=by rw[<-r2.length];exact F.len _ _ _ _ h
 refine Qa8 (Qan (F.run X.A X.stack s H ⟨us,[]⟩ (us++ds) (vs++dvs) Q E hr I.env0 (hb s us I.kIn hl) r2 h) fun r s' hq=>?_);cases r with
|error e=>exact hx pz σ H s e s' I hq
|ok fl=>cases fl with
 |ret u=>exact I.after hq
 |next=>exact Y2 hq
 |brk=>exact Y2 hq
 |cont=>exact Y2 hq
def Hk(F:FnOk X.prog X.w X.K X.mg X.base CX k f fd ps sp)(hr:Room k X.A)(hg:Gl X x)(hm:X.mg x=some (.ref f))(hk:W.keepIn X.K (.ref f)=true)(hb:hU X.K fd ps ds)(hd:aN dvs ds)(hx:qc CX X E)(ha:PA X (e::es) t)(z:(x==("__debug__" : Str))=false:=by decide)(he:f_ (e::es) X.env=(false,eval e X.env)::f_ es X.env:=by rfl)(U:(backTo pos (f_ es X.env)).any (·.1)=false:=by rfl):PE X (.Call (.Name x p) (e::es) [] pos) (Lb sp dvs E t):=by intro pz s σ H Q I h;refine ZE (my I hg hm ?_ z);refine W.callWith_K (h₀:=X.base) I.ok.mod.kin hk (bL (ha pos pz s σ H _ I h) fun us s1 ⟨vs,H1,I1,r,q⟩=>⟨I1.kIn,?_⟩) he U;exact Gn F hr hb hd hx I1 r q
structure Mk(K:W.Frag)(C f:Addr):Prop where
 makes:W.makesIn K C=true
 init:W.findIn K (.ref C) "__init__" = some (some (.ref f))
 fn:W.isFn K (.ref f)=true
 kp:W.keepIn K (.ref C)=true
def Qo{pz:List (Addr×Obj)}{σ:St}{H:Hp}{s:h_}{Q:VK}{us:List Value}{vs:List V}(M:Mk X.K C f)(F:FnOk X.prog X.w X.K X.mg X.base CX k f fd ps sp)(hr:Room (k+1) X.A)(hb:hU X.K fd ps ds)(hd:aN dvs ds)(hx:qc CX X E)(I:Inv X pz σ H s)(r:aN vs us)(h:∀x dx,H x=none->H dx=none->dx≠x->sp (.ref x::(vs++dvs)) (upd (upd H dx (.own x)) x (.ins C dx [])) (fun v H2=>v=.non/\Q (.ref x) H2) E):w_ (B_ X.prog X.w) X.A (call (.ref C) us) (EP X pz σ Q) X.xe s:=by
 have hq:=h (s.heap.objs.size+1) s.heap.objs.size (I.hok.fresh (QcM _)) (I.hok.fresh (y_ _)) (G_ (ZT _));have I2:=Inv.made (C:=C) I;have r2:aN (V.ref (s.heap.objs.size+1)::(vs++dvs)) (Value.ref (s.heap.objs.size+1)::(us++ds)):=.cons rfl (r.append hd);have hl:(Value.ref (s.heap.objs.size+1)::us++ds).length=ps.length:=by have e:=r2.length;rw[F.len _ _ _ _ hq]at e;exact e.symm
 refine Qa8 (QA (f:=f) I.kIn M.makes M.init (beq_iff_eq.mp M.fn) (Qan (F.run _ X.stack _ _ ⟨Value.ref (s.heap.objs.size+1)::us,[]⟩ (Value.ref (s.heap.objs.size+1)::(us++ds)) _ _ E (hr.make C us [])
  (I2.env0.make C us []) (hb _ (Value.ref (s.heap.objs.size+1)::us) I2.kIn hl) r2 hq) fun r s' hq'=>?_))
 cases r with
|error e=>exact hx pz σ _ _ e s' I2 hq'
|ok fl=>cases fl with
 |ret u=>obtain⟨v,H',I3,rv,ev,q3⟩:=I2.after hq';subst ev;exact⟨rv,⟨V.ref (s.heap.objs.size+1),H',I3,rfl,q3⟩⟩
 |next=>exact Y2 hq'
 |brk=>exact Y2 hq'
 |cont=>exact Y2 hq'
def Ph(M:Mk X.K C f)(F:FnOk X.prog X.w X.K X.mg X.base CX k f fd ps sp)(hr:Room (k+1) X.A)(hg:Gl X x)(hm:X.mg x=some (.ref C))(hb:hU X.K fd ps ds)(hd:aN dvs ds)(hx:qc CX X E)(ha:PA X (e::es) t)(z:(x==("__debug__" : Str))=false:=by decide)(he:f_ (e::es) X.env=(false,eval e X.env)::f_ es X.env:=by rfl)(U:(backTo pos (f_ es X.env)).any (·.1)=false:=by rfl):PE X (.Call (.Name x p) (e::es) [] pos) (Lc C sp dvs E t):=by intro pz s σ H Q I h;refine ZE (my I hg hm ?_ z);refine W.callWith_K (h₀:=X.base) I.ok.mod.kin M.kp (bL (ha pos pz s σ H _ I h) fun us s1 ⟨vs,H1,I1,r,q⟩=>⟨I1.kIn,?_⟩) he U;exact Qo M F hr hb hd hx I1 r q
end
structure FnScope(N P:List Str)(sc:Qa1):Prop where
 kind:sc.kind=.function
 co:sc.isCoroutine=false
 gen:sc.isGenerator=false
 nd:N.Nodup
 pre:N.take P.length=P
 par:∀x∈P,sc.names.lookup x=some .local\/sc.names.lookup x=some .cell
 nofree:∀y∈sc.names,y.2≠.free
def Jb{kindOf:Str->Option QaQ}{x:Str}:∀{binds:List (Str×Value)}{m:Str->Option Value},(∀v,(x,v)∉binds)->Qel kindOf binds m x=m x
|[],_,_=>rfl
|(n,v)::r,m,h=>by
  unfold Qel;rw[Jb fun w hw=>h w (m_ _ hw)];split
  .have:x≠n:=by rintro rfl;exact h v r_
   simp[this]
  .rfl
def IZ{kindOf:Str->Option QaQ}{x:Str}:∀{binds:List (Str×Value)}{m:Str->Option Value},(∀v,(x,v)∉binds)->Qem kindOf binds m x=m x
|[],_,_=>rfl
|(n,v)::r,m,h=>by
  unfold Qem;rw[IZ fun w hw=>h w (m_ _ hw)];split
  .rfl
  .have:x≠n:=by rintro rfl;exact h v r_
   simp[this]
def Ja{kindOf:Str->Option QaQ}{x:Str}{v:Value}:∀{P:List Str}{vs:List Value}{i:Nat}{m:Str->Option Value},P.Nodup->P[i]? = some x->vs[i]? = some v->kindOf x=some .local ->Qel kindOf (P.zip vs) m x=some v
|[],_,_,_,_,h,_,_=>by simp at h
|_::_,[],_,_,_,_,h,_=>by simp at h
|p::P,w::vs,0,m,nd,h1,h2,hk=>by simp at h1 h2;subst h1;subst h2;show Qel kindOf ((p,w)::P.zip vs) m p=_;unfold Qel;rw[Jb fun v hv=>(Zd.mp nd).1 (Qa6 hv).1,if_pos hk];simp
|p::P,w::vs,i+1,m,nd,h1,h2,hk=>by show Qel kindOf ((p,w)::P.zip vs) m x=_;unfold Qel;exact Ja (i:=i) (Zd.mp nd).2 (by simpa using h1) (by simpa using h2) hk
def IY{kindOf:Str->Option QaQ}{x:Str}{v:Value}:∀{P:List Str}{vs:List Value}{i:Nat}{m:Str->Option Value},P.Nodup->P[i]? = some x->vs[i]? = some v->kindOf x≠some .local ->Qem kindOf (P.zip vs) m x=some v
|[],_,_,_,_,h,_,_=>by simp at h
|_::_,[],_,_,_,_,h,_=>by simp at h
|p::P,w::vs,0,m,nd,h1,h2,hk=>by simp at h1 h2;subst h1;subst h2;show Qem kindOf ((p,w)::P.zip vs) m p=_;unfold Qem;rw[IZ fun v hv=>(Zd.mp nd).1 (Qa6 hv).1,if_neg hk];simp
|p::P,w::vs,i+1,m,nd,h1,h2,hk=>by show Qem kindOf ((p,w)::P.zip vs) m x=_;unfold Qem;exact IY (i:=i) (Zd.mp nd).2 (by simpa using h1) (by simpa using h2) hk
def cm(N:List Str)(vs:List V):St:=vs.map some++d_ (N.length-vs.length) none
def bM(CX:ja)(P:C_)(w:N_)(K:W.Frag)(mg:Str->Option Value)(base:Heap)(N:List Str)(qual:Str)(scope:Qa1)(f:Addr)(cd:Value)(A:W_)(outer:List Env)(s:h_)(H:Hp)(E:XK):Cx where
 prog:=P
 w:=w
 K:=K
 mg:=mg
 base:=base
 A:=A.deeper (QaX qual scope s.heap.objs.size f cd)
 N:=N
 s₀:=s
 H₀:=H
 env:=QaX qual scope s.heap.objs.size f cd
 outer:=outer
 stack:=QaX qual scope s.heap.objs.size f cd::outer
 ex:=[]
 calm:=true
 fn:=fun _=>true
 pn:=[]
 xe:=fun e s'=>w_ (B_ P w) (A.deeper (QaX qual scope s.heap.objs.size f cd)) (leaving (QaX qual scope s.heap.objs.size f cd) e) (fun _ s''=>CX outer H s E e s'') (fun e' s''=>CX outer H s E e' s'') s'
def Ii{sc:Qa1}{n:Nat}{x:Str}(h:sc.names.lookup x=some .cell):∃c,(cellsFrom n sc.names []).lookup x=some c:=by have q:=W.cellsFrom_some sc.names n [] (.inl h);exact Option.isSome_iff_exists.mp q
def RS{CX:ja}{P:C_}{w:N_}{K:W.Frag}{mg:Str->Option Value}{base:Heap}{N ps:List Str}{qual:Str}{scope:Qa1}{f:Addr}{cd:Value}{A:W_}{outer:List Env}{s s1:h_}{H:Hp}{E:XK}{us:List Value}{vs:List V}(S:FnScope N ps scope)(hd:A.handled=none)(e0:Env0 P w K mg base A outer s H)(hl:vs.length=ps.length)(r:aN vs us)(x:InCallC s s.heap.objs.size (Qel (QaX qual scope s.heap.objs.size f cd).kindOf (ps.zip us) fun _=>none) (cellsFrom (s.heap.objs.size+1) scope.names []) (Qem (QaX qual scope s.heap.objs.size f cd).kindOf (ps.zip us) fun _=>none) s1):Inv (bM CX P w K mg base N qual scope f cd A outer s H E) [] (cm N vs) H s1:=by
 have Z:ps.length<=N.length:=by have:=congrArg QcN S.pre;rw[Qad]at this;omega
 obtain⟨h1,tk,rfl,hk⟩:=x.done;have U:∀b:Addr,b∉(bM CX P w K mg base N qual scope f cd A outer s H E).ex:=fun b z=>absurd (show b∈([]:List Addr)from z) (by simp);refine⟨⟨e0.mod,S.kind,rfl,rfl,y_ _,fun y z c h1 h2=>?_,fun y hy=>?_,fun y c _ h=>?_,fun _=>hd,Around.frames_deeper e0.frames,.inr ⟨rfl,rfl⟩,fun b z=>absurd z (U b),e0.bs,e0.bsz,fun b _ _=>U b,fun b z=>absurd z (U b),e0.funs,e0.frf⟩,rfl,e0.bare,Un.kept hk,⟨_,x.toInCall.ns,fun i y v h1 h2 h3=>?_⟩,fun y c h=>⟨_,x.cell y c h⟩,e0.hok.fresh (y_ _),fun y c h=>?_,fun p hp=>absurd (show p∈([]:List (Addr×Obj))from hp) (by simp),e0.hok.kept hk,?_⟩
 .exact name_of_addr x.apart (ZM h1) (ZM h2)
 .have hy:scope.names.lookup y=some .cell\/scope.names.lookup y=some .free:=hy;rcases hy with hy|hy
  .exact Ii hy
  .exact absurd rfl (S.nofree _ (ZM hy))
 .exact Qdo (x.above y c (ZM h))
 .have hi:i<vs.length:=by
   unfold cm at h2;by_cases hi:i<vs.length
   .exact hi
   .rw[Qah (by simpa using hi)]at h2;rw[Zr]at h2;split at h2 <;> cases h2
  have ha:vs[i]? = some v:=by unfold cm at h2;rw[Y4 (by simpa using hi),x_]at h2;cases e:vs[i]? with
  |none=>rw[e]at h2;cases h2
  |some a=>rw[e]at h2;cases h2;rfl
  obtain⟨u,hu,rv⟩:=r.get ha;have hp:ps[i]? = some y:=by rw[<-S.pre,List.getElem?_take_of_lt (by omega)];exact h1
  have Y:ps.Nodup:=by rw[<-S.pre];exact S.nd.sublist (List.take_sublist _ _)
  refine⟨u,rv,?_⟩;rcases S.par y (Z0 hp)with k|k
  .exact .inl ⟨k,Ja Y hp hu k⟩
  .obtain⟨c,e⟩:=Ii (n:=s.heap.objs.size+1) k;refine .inr ⟨.inl k,c,e,?_⟩;have q:=x.cell y c e;rw[IY Y hp hu (by show scope.names.lookup y≠_;rw[k];decide)]at q;exact q
 .exact e0.hok.fresh (Qdo (x.above y c (ZM h)))
 .unfold cm;show _=N.length;rw[Y3,q_,ZR];omega
def E7{CX:ja}{P:C_}{w:N_}{K:W.Frag}{mg:Str->Option Value}{base:Heap}{k:Nat}{f:Addr}{name qual:Str}{params:Arguments}{body:List Stmt}{scope:Qa1}{dV kV doc pm cdv ct oc:Value}{an od:Option Addr}{osl:Array (Option Value)}{N ps:List Str}{sp:Sp}(lk:K.lookup f=some ⟨oc,od,.func (W.fnOf name qual params body scope dV kV doc pm an cdv ct),osl⟩)(Z:W.codeIn K cdv qual=true)(S:FnScope N ps scope)(len:∀vs H Q E,sp vs H Q E->vs.length=ps.length)(U:∀(A:W_)(outer:List Env)(s:h_)(H:Hp)(vs:List V)(Q:VK)(E:XK),Room k (A.deeper (QaX qual scope s.heap.objs.size f cdv))->sp vs H Q E ->∃t,dq (bM CX P w K mg base N qual scope f cdv A outer s H E) body t/\t { nx:=fun _ H'=>Q .non H',rt:=Q } (cm N vs) H):FnOk P w K mg base CX (k+1) f (W.fnOf name qual params body scope dV kV doc pm an cdv ct) ps sp:=by
 refine⟨len,fun A outer s H args us vs Q E hr e0 hb r Y=>?_⟩;have hl:=len _ _ _ _ Y;have KX:K.In s.heap:=e0.mod.kin.keeps fun b o e=>(e0.bs b o e).1;have ld:s.heap.NoLimit:=e0.mod.nolimit.keeps fun b o e=>(e0.bs b o e).1;have z:∀y∈ps.zip us,scope.names.lookup y.1=some .local\/(scope.names.lookup y.1=some .cell/\((cellsFrom (s.heap.objs.size+1) scope.names []).lookup y.1).isSome=true):=fun⟨n,v⟩ hy=>by
  rcases S.par n (Qa6 hy).1 with q|q
  .exact .inl q
  .exact .inr ⟨q,W.cellsFrom_some _ _ _ (.inl q)⟩
 refine codeAny_call_function hr.depth (KX _ _ lk) rfl S.co S.gen rfl (W.codeRec_of KX Z) (hb _ _ _ _ ?_);refine wpAny_newFunctionEnv_cells S.kind z fun env he s1 x=>?_;subst he;refine⟨ld.keeps x.toInCall.keep,codeAny_func ?_⟩;obtain⟨t,ht,hq⟩:=U A outer s H vs Q E (hr.deeper _) Y;have I:Inv (bM CX P w K mg base N qual scope f cdv A outer s H E) [] (cm N vs) H s1:=RS S hr.hd e0 hl r x;refine Y7 (ht [] s1 (cm N vs) H _ I hq) (fun fl s' hs=>?_) fun e s' hs=>hs;have fin:∀{σ':St}{H':Hp}{v:V}{u:Value},Inv (bM CX P w K mg base N qual scope f cdv A outer s H E) [] σ' H' s'->aS v u->Q v H'->CE outer P w H s Q u s':=fun{σ' H' v u} J rv q=>⟨v,H',J.os,J.bare,J.base,J.hok,rv,q⟩
 cases fl with
|ret u=>obtain⟨v,σ',H',J,rv,q⟩:=hs;exact fin J rv q
|next=>obtain⟨σ',H',J,q⟩:=hs;exact fin (v:=V.non) (u:=Value.none) J rfl q
|brk=>obtain⟨_,_,_,q⟩:=hs;exact Y2 q
|cont=>obtain⟨_,_,_,q⟩:=hs;exact Y2 q
section
variable{x:Str}{id T:String}{r:List V->Hp->VK->Prop}
def sv(r:List V->Hp->VK->Prop)(t:TA):TE:=fun σ H Q=>t σ H fun vs H1=>r vs H1 Q
def o8(hc:gp X (.builtin id) r)(hg:Gl X x)(hm:X.mg x=none)(hv:QaS x=some (.builtin id))(ha:PA X (e::es) t)(hn:x≠"__name__" := by decide)(z:(x==("__debug__" : Str))=false:=by decide)(he:f_ (e::es) X.env=(false,eval e X.env)::f_ es X.env:=by rfl)(U:(backTo pos (f_ es X.env)).any (·.1)=false:=by rfl):PE X (.Call (.Name x p) (e::es) [] pos) (sv r t):=by intro pz s σ H Q I h;refine ZE (lx I hg hm hv ?_ hn z);exact Qbu (bL (ha pos pz s σ H _ I h) fun us s1 ⟨vs,H1,I1,r1,q1⟩=>hc pz s1 σ H1 vs us Q I1 r1 q1) he U
def mJ(hc:gp X (.type T) r)(hg:Gl X x)(hm:X.mg x=none)(hv:QaS x=some (.type T))(ha:PA X (e::es) t)(hn:x≠"__name__" := by decide)(z:(x==("__debug__" : Str))=false:=by decide)(he:f_ (e::es) X.env=(false,eval e X.env)::f_ es X.env:=by rfl)(U:(backTo pos (f_ es X.env)).any (·.1)=false:=by rfl):PE X (.Call (.Name x p) (e::es) [] pos) (sv r t):=by intro pz s σ H Q I h;refine ZE (lx I hg hm hv ?_ hn z);exact ZI (bL (ha pos pz s σ H _ I h) fun us s1 ⟨vs,H1,I1,r1,q1⟩=>hc pz s1 σ H1 vs us Q I1 r1 q1) he U
end
end L2
namespace HT
open PySem PyProof.Rows
section
open PySem.SeqAt
open PySem.AutoSeq1 (wpAny_loadPart')
open PySem.MeetsSeq PySem.MeetsSeq2 PySem.MeetsSeq3
end
section
variable{prog:C_}{w:N_}{A:W_}{E:Value->h_->Prop}{s:h_}
def lc{t b:Addr}{vs ws:List Value}{Q:Value->h_->Prop}(ht:IsTup s.heap t vs.toArray)(hb:IsTup s.heap b ws.toArray)(hv:vs≠[])(h1:ws=[]->Q (.ref t) s)(h2:ws≠[]->Q (.ref s.heap.objs.size) { s with heap:=s.heap.push { cls:=.type "tuple",data:=.seq (vs++ws).toArray } })(hsz:vs.length+ws.length<=sizeLine):w_ (B_ prog w) A (Z_ .Add (.ref t) (.ref b)) Q E s:=by
 obtain⟨⟨cls,dd,data,sl⟩,ho,hc,n,hd⟩:=id ht;obtain⟨⟨ld,U,Z,Y⟩,ho2,z,n2,hd2⟩:=id hb;simp only at hc hd z hd2;subst hc hd z hd2;have e:vs.toArray++ws.toArray=(vs++ws).toArray:=by simp
 by_cases hw:ws=[]
 .exact Qcr ⟨_,ho,rfl⟩ ⟨_,ho2,rfl⟩ Qcn Qc8 Qbl Qbd (Qa2 _ _)
   (tuple_addW1 t b vs.toArray ws.toArray n n2 dd U sl Y (by simpa using hv) (by simp[hw])) ⟨ho,ho2,h1 hw⟩
 .refine Qcr ⟨_,ho,rfl⟩ ⟨_,ho2,rfl⟩ Qcn Qc8 Qbl Qbd (Qa2 _ _)
   (tuple_addW2 t b vs.toArray ws.toArray n n2 dd U sl Y (by simpa using hv) (by simpa using hw) (by rw[u_,u_];exact hsz)) ⟨ho,ho2,?_⟩
  rw[e];exact h2 hw
def sIx(n d:Nat):Option Int->Nat
|none=>d
|some v=>if v<0 then(v+(n:Int)).toNat else min v.toNat n
def eB(n d:Nat):sIx n d none=d:=rfl
def fP(n d k:Nat):sIx n d (some (k:Int))=min k n:=by show(if (k:Int)<0 then((k:Int)+(n:Int)).toNat else min (k:Int).toNat n)=min k n;rw[if_neg (by omega),Zy]
def NR(n d:Nat)(hd:d<=n)(o:Option Int):sIx n d o<=n:=by cases o with
|none=>exact hd
|some v=>
  show(if v<0 then(v+(n:Int)).toNat else min v.toNat n)<=n;by_cases hv:v<0
  .rw[if_pos hv];omega
  .rw[if_neg hv];exact QdK _ _
def GM(v:Int)(n d:Nat):(if v<0 then max (v+(n:Int)) 0 else min v (n:Int))=((sIx n d (some v):Nat):Int):=by
 show(if v<0 then max (v+(n:Int)) 0 else min v (n:Int))=(((if v<0 then(v+(n:Int)).toNat else min v.toNat n):Nat):Int)
 by_cases hv:v<0
 .simp only[if_pos hv];omega
 .simp only[if_neg hv];omega
def R8(lo hi:Option Int)(n:Nat):QaW lo hi 1 (n:Int)=(((sIx n 0 lo:Nat):Int),((sIx n n hi:Nat):Int)):=by
 have h1:¬ ((1:Int)<0):=by omega
 unfold QaW;simp only[h1,if_false];refine Prod.ext ?_ ?_
 .cases lo with
 |none=>rfl
 |some v=>exact GM v n 0
 .cases hi with
 |none=>rfl
 |some v=>exact GM v n n
def Sv(i j:Nat):Qaj (i:Int) (j:Int) 1=j-i:=by
 unfold Qaj;have h1:(1:Int)>0:=by omega
 simp only[h1,if_true,Int.ediv_one];split <;> omega
def JM{v:Value}{o:Option Int}{Q:Option Int->h_->Prop}(p:Qcs v o)(h:Q o s):w_ (B_ prog w) A (Qd2 v) Q E s:=by cases p with
|none=>exact slicePart_none h
|int i t=>exact slicePart_int h
def de{sl:Addr}{vl vu:Value}{lo hi:Option Int}{n:Nat}{Q:Int×Int×Nat->h_->Prop}(hs:s.heap.IsSliceOf sl vl vu .none)(pl:Qcs vl lo)(pu:Qcs vu hi)(h:Q (((sIx n 0 lo:Nat):Int),1,sIx n n hi-sIx n 0 lo) s):w_ (B_ prog w) A (QbY (.ref sl) (pure (n:Int))) Q E s:=by obtain⟨os,z,Y,U⟩:=id hs;unfold QbY Qez;refine a_ (a_ (Y5 z U (x:=vl) rfl (a_ (Y5 z U (x:=vu) rfl (a_ (Y5 z U (x:=.none) rfl (n_ ?_)))))));refine a_ (slicePart_none ?_);show w_ _ _ (if ((1:Int)==0)=true then _ else _) _ _ s;rw[if_neg (by decide)];refine a_ (JM pl (a_ (JM pu (a_ (n_ ?_)))));show w_ _ _ (match QaW lo hi 1 (n:Int)with|(lo,hi)=>pure (lo,(1:Int),Qaj lo hi 1)) _ _ s;rw[R8 lo hi n];show w_ _ _ (pure (((sIx n 0 lo:Nat):Int),(1:Int),Qaj ((sIx n 0 lo:Nat):Int) ((sIx n n hi:Nat):Int) 1)) _ _ s;rw[Sv];exact n_ h
def QT(xs:Array Value)(i k:Nat):((g_ k).filterMap fun(m:Nat)=>xs[((i:Int)+(m:Int)*1).toNat]?).toArray=((xs.toList.drop i).take k).toArray:=by
 have e:(fun(m:Nat)=>xs[((i:Int)+(m:Int)*1).toNat]?)=fun m=>xs[i+m]?:=by
  funext m;have:((i:Int)+(m:Int)*1).toNat=i+m:=by omega
  rw[this]
 rw[e];have:=pick_run xs i k;rw[List.filterMap_map]at this;have e2:((fun x=>xs[x]?)∘fun x=>i+x)=fun m=>xs[i+m]?:=rfl;rw[e2]at this;rw[this]
def eI{t sl:Addr}{items:Array Value}{vl vu:Value}{lo hi:Option Int}{Q:Value->h_->Prop}(ht:IsTup s.heap t items)(hs:s.heap.IsSliceOf sl vl vu .none)(pl:Qcs vl lo)(pu:Qcs vu hi)(hw:¬ (sIx items.size 0 lo=0/\sIx items.size items.size hi=items.size))(h:Q (.ref s.heap.objs.size) { s with heap:=s.heap.push { cls:=.type "tuple",data:=.seq ((items.toList.drop (sIx items.size 0 lo)).take (sIx items.size items.size hi-sIx items.size 0 lo)).toArray } })(hsz:items.size<=sizeLine):w_ (B_ prog w) A (Qct (.ref t) (.ref sl)) Q E s:=by
 have z:sizeOk (.seq ((items.toList.drop (sIx items.size 0 lo)).take (sIx items.size items.size hi-sIx items.size 0 lo)).toArray):=by show((items.toList.drop (sIx items.size 0 lo)).take (sIx items.size items.size hi-sIx items.size 0 lo)).toArray.size<=sizeLine;rw[u_,Qad,Qbv,QbO];omega
 have hj:sIx items.size items.size hi<=items.size:=NR _ _ (y_ _) hi;obtain⟨os,ld,Z,BT⟩:=id hs;have Y:s.TypeIs (.ref sl) "slice" := ⟨os,ld,Z⟩
 unfold Qct
 try with_reducible refine ZJ ?_
 first|refine a_ (n_ ?_)|skip
 refine a_ (Qdv ht.typeIs (by decide) ?_);refine a_ (ZH (name:=D_ "__getitem__") ht.typeIs Y9
  (Qay Y9 ht.typeIs entry_tuple_getitem ?_ (args_tuple_getitem _ _)))
 show w_ _ _ (QbZ (.ref t) >>= _) _ _ s;refine a_ (tupleItemsOf_ ht ?_);refine a_ (Qao Y ?_);rw[if_pos (by decide)];refine a_ (de hs pl pu ?_);have U:¬ ((((sIx items.size 0 lo:Nat):Int)==0&&(1:Int)==1&&(sIx items.size items.size hi-sIx items.size 0 lo)==items.size)=true):=by intro q;rw[P_,P_]at q;have q1:((sIx items.size 0 lo:Nat):Int)=0:=Z5 q.1.1;have q2:sIx items.size items.size hi-sIx items.size 0 lo=items.size:=Z5 q.2;exact hw ⟨by omega,by omega⟩
 show w_ _ _ (if (((sIx items.size 0 lo:Nat):Int)==0&&(1:Int)==1&&(sIx items.size items.size hi-sIx items.size 0 lo)==items.size)=true then _ else _) _ _ s;rw[if_neg U,QT]
 first
  |exact a_ (m:=Zg _) (Zk (n_ ⟨_,rfl,n_ h⟩) z)
  |exact a_ (m:=Zg _) (Zk (a_ (n_ (n_ ⟨_,rfl,n_ h⟩))) z)
  |exact a_ (a_ (m:=Zg _) (Zk (n_ (n_ ⟨_,rfl,n_ h⟩)) z))
  |exact a_ (a_ (m:=Zg _) (Zk (n_ ⟨_,rfl,n_ h⟩) z))
end
end HT
namespace L2
open PySem PySem.Spec PyProof.Rows
abbrev TO:=St->Hp->(Option Int->Hp->Prop)->Prop
def PO(X:Cx)(e:Option Expr)(t:TO):Prop:=∀(pz:List (Addr×Obj))(s:h_)(σ:St)(H:Hp)(Q:Option Int->Hp->Prop),Inv X pz σ H s->t σ H Q ->w_ (B_ X.prog X.w) X.A (evalPart e X.env) (fun u s'=>∃o H',Inv X pz σ H' s'/\Qcs u o/\Q o H') X.xe s
def Pa:TO:=fun _ H Q=>Q none H
def Lf(t:TE):TO:=fun σ H Q=>t σ H fun x H1=>∃i,x=.int i/\Q (some i) H1
variable{X:Cx}{e:Expr}{pos:Pos}
section
variable{te:TE}{lo hi:Option Expr}{tl th:TO}{p2:Pos}
def Pk:PO X none Pa:=by intro pz s σ H Q I h;rw[evalPart_none];exact n_ ⟨none,H,I,.none,h⟩
def Pm(h:PE X e te):PO X (some e) (Lf te):=by intro pz s σ H Q I hw;rw[evalPart_some];refine bL (h pz s σ H _ I hw) fun u s1 ⟨x,H1,I1,r1,q1⟩=>?_;obtain⟨i,rfl,q⟩:=q1;obtain⟨t,rfl⟩:=r1;exact⟨some i,H1,I1,.int i t,q⟩
def j8(X:Cx)(r:V->Option Int->Option Int->Hp->VK->Prop):Prop:=∀(pz:List (Addr×Obj))(s:h_)(σ:St)(H:Hp)(x:V)(v vl vu:Value)(lo hi:Option Int)(sl:Addr)(Q:VK),Inv X pz σ H s->aS x v->s.heap.IsSliceOf sl vl vu .none->Qcs vl lo->Qcs vu hi->r x lo hi H Q ->∃T id,typeLookup (.type T) "__getitem__" = pure (some (.builtin id))/\s.TypeIs v T/\w_ (B_ X.prog X.w) X.A (Qct v (.ref sl)) (EP X pz σ Q) X.xe s
def j8.or{r r':V->Option Int->Option Int->Hp->VK->Prop}(h:j8 X r)(h':j8 X r'):j8 X (fun x lo hi H Q=>r x lo hi H Q\/r' x lo hi H Q):=by
 intro pz s σ H x v vl vu lo hi sl Q I rx hs pl pu q;rcases q with q|q
 .exact h pz s σ H x v vl vu lo hi sl Q I rx hs pl pu q
 .exact h' pz s σ H x v vl vu lo hi sl Q I rx hs pl pu q
def UE(r:V->Option Int->Option Int->Hp->VK->Prop)(te:TE)(tl th:TO):TE:=fun σ H Q=>te σ H fun x H1=>tl σ H1 fun l H2=>th σ H2 fun u H3=>r x l u H3 Q
def QS{r:V->Option Int->Option Int->Hp->VK->Prop}(hr:j8 X r)(he:PE X e te)(hl:PO X lo tl)(hu:PO X hi th):PE X (.Subscript e (.Slice lo hi none p2) pos) (UE r te tl th):=by intro pz s σ H Q I h;refine Subscript_ (bL (he pz s σ H _ I h) fun v s1 ⟨x,H1,I1,r1,q1⟩=>?_);refine wpAny_Slice (bL (hl pz s1 σ H1 _ I1 q1) fun vl s2 ⟨l,H2,I2,pl,q2⟩=>bL (hu pz s2 σ H2 _ I2 q2) fun vu s3 ⟨u,H3,I3,pu,q3⟩=>?_);rw[evalPart_none];refine n_ ?_;have I4:Inv X pz σ H3 { s3 with heap:=s3.heap.push { cls:=.type "slice",data:=.fields #[vl,vu,.none] } }:=I3.kept (t':=s3.toks) fun b ob q=>c_ _ q;obtain⟨T,id,hT,ht,hg⟩:=hr pz { s3 with heap:=s3.heap.push { cls:=.type "slice",data:=.fields #[vl,vu,.none] } } σ H3 x v vl vu l u s3.heap.objs.size Q I4 r1 (Heap.IsSliceOf.new ..) pl pu q3;show w_ (B_ X.prog X.w) X.A (subscriptTail e (.Slice lo hi none p2) v (.ref s3.heap.objs.size)) (EP X pz σ Q) X.xe { s3 with heap:=s3.heap.push { cls:=.type "slice",data:=.fields #[vl,vu,.none] } };exact tail_any (ops:=[.ref s3.heap.objs.size,v]) ht hT hg (by with_unfolding_all rfl)
def i5(xs:List V)(lo hi:Option Int):List V:=(xs.drop (HT.sIx xs.length 0 lo)).take (HT.sIx xs.length xs.length hi-HT.sIx xs.length 0 lo)
def Jw(xs:List V)(lo hi:Option Int):(i5 xs lo hi).length<=xs.length:=by unfold i5;rw[Qad,Qbv];omega
def Ew(K:W.Frag):V->Option Int->Option Int->Hp->VK->Prop:=fun x lo hi H Q=>∃a xs,x=.ref a/\dy K H a xs /\¬ (HT.sIx xs.length 0 lo=0/\HT.sIx xs.length xs.length hi=xs.length)/\∀p,H p=none->Q (.ref p) (upd H p (.tup (i5 xs lo hi)))
def Nn:j8 X (Ew X.K):=by
 intro pz s σ H x v vl vu lo hi sl Q I rx hs pl pu h;obtain⟨a,xs,rfl,hx,hw,q⟩:=h;cases rx;obtain⟨its,r,ht,hz⟩:=I.tuple hx;have hlen:its.toArray.size=xs.length:=by rw[u_];exact r.length.symm
 refine⟨"tuple",_,Y9.lookup,ht.typeIs,?_⟩;refine HT.eI ht hs pl pu (by rw[hlen];exact hw) ?_ (by rw[hlen];exact hz);rw[hlen];refine⟨.ref s.heap.objs.size,_,I.laid (t':=s.toks) (o:=.tup (i5 xs lo hi)) (fun b ob q=>c_ _ q) (y_ _) ?_,rfl,q _ (I.hok.fresh (y_ _))⟩;exact⟨Y8 (Jw xs lo hi) hz,_,(r.drop (HT.sIx xs.length 0 lo)).take (HT.sIx xs.length xs.length hi-HT.sIx xs.length 0 lo),QdL _ _,_,t_ _ rfl,rfl⟩
def zS(K:W.Frag):R2:=fun x y H Q=>∃a b xs ys,x=.ref a/\y=.ref b/\dy K H a xs/\dy K H b ys/\xs≠[]/\xs.length+ys.length<=sizeLine /\(ys=[]->Q (.ref a) H)/\(ys≠[]->∀p,H p=none->Q (.ref p) (upd H p (.tup (xs++ys))))
def aN.nil_iff{xs:List V}{us:List Value}(r:aN xs us):us=[]↔xs=[]:=by cases r with
|nil=>simp
|cons _ _=>simp
def Hi:cu X (Z_ .Add) (zS X.K):=by intro pz s σ H x y v u Q I rx ry h;obtain⟨a,b,xs,ys,rfl,rfl,ha,hb,hx,hz,q1,q2⟩:=h;cases rx;cases ry;obtain⟨its,r1,p1,_⟩:=I.tuple ha;obtain⟨U,r2,p2,_⟩:=I.tuple hb;refine HT.lc p1 p2 (fun z=>hx (r1.nil_iff.mp z)) (fun z=>⟨.ref a,H,I,rfl,q1 (r2.nil_iff.mp z)⟩) (fun z=>?_) (by rw[<-r1.length,<-r2.length];exact hz);refine⟨.ref s.heap.objs.size,_,I.laid (t':=s.toks) (o:=.tup (xs++ys)) (fun b ob q=>c_ _ q) (y_ _) ?_,rfl,q2 (fun w=>z (r2.nil_iff.mpr w)) _ (I.hok.fresh (y_ _))⟩;exact⟨by rw[Y3];exact hz,_,r1.append r2,QdL _ _,_,t_ _ rfl,rfl⟩
end
def gu(n:Nat)(i:Int):Option Nat:=if 0<=i then(if i<n then some i.toNat else none)else if-(n:Int)<=i then some (i+n).toNat else none
def gR{α:Type}(xs:List α)(i:Int):Option α:=(gu xs.length i).bind fun j=>xs[j]?
def HE{n:Nat}{i:Int}{j:Nat}(h:gu n i=some j):seqIndex? i n=some j/\j<n/\-(n:Int)<=i/\i<n:=by
 unfold gu at h;by_cases h0:0<=i
 .rw[if_pos h0]at h;by_cases h1:i<n
  .rw[if_pos h1]at h;have e:i.toNat=j:=E_ h;exact⟨by rw[QdX h0 h1,e],by omega,by omega,h1⟩
  .rw[if_neg h1]at h;cases h
 .rw[if_neg h0]at h;by_cases h1 : -(n:Int)<=i
  .rw[if_pos h1]at h;have e:(i+n).toNat=j:=E_ h;exact⟨by rw[seqIndex_neg (by omega) h1,e],by omega,h1,by omega⟩
  .rw[if_neg h1]at h;cases h
def AZ{α:Type}{xs:List α}{i:Int}{v:α}(h:gR xs i=some v):∃j,seqIndex? i xs.length=some j/\xs[j]? = some v/\j<xs.length/\-(xs.length:Int)<=i/\i<xs.length:=by unfold gR at h;cases e:gu xs.length i with
|none=>rw[e]at h;cases h
|some j=>rw[e]at h;obtain⟨h1,h2,h3,h4⟩:=HE e;exact⟨j,h1,h,h2,h3,h4⟩
def vF(b:Expr):Prop:=∀o i,subscripted b false o i=operate [o,i] (Qct o i)
def jU(X:Cx)(r:R2):Prop:=∀(value slice:Expr)(pz:List (Addr×Obj))(s:h_)(σ:St)(H:Hp)(x y:V)(v u:Value)(Q:VK),Inv X pz σ H s->aS x v->aS y u->r x y H Q ->subscripted slice false v u=operate [v,u] (Qct v u)->w_ (B_ X.prog X.w) X.A (subscriptTail value slice v u) (EP X pz σ Q) X.xe s
def nN(X:Cx)(id:String)(r:V->List V->Hp->VK->Prop):Prop:=∀(pz:List (Addr×Obj))(s:h_)(σ:St)(H:Hp)(x:V)(xs:List V)(v:Value)(us:List Value)(Q:VK),Inv X pz σ H s->aS x v->aN xs us->r x xs H Q ->w_ (B_ X.prog X.w) X.A (call (.builtin id) (v::us)) (EP X pz σ Q) X.xe s
section
variable{a b:Expr}{ta tb:TE}
def jU.or{r r':R2}(h:jU X r)(h':jU X r'):jU X (fun x y H Q=>r x y H Q\/r' x y H Q):=by
 intro value slice pz s σ H x y v u Q I rx ry q hs;rcases q with q|q
 .exact h value slice pz s σ H x y v u Q I rx ry q hs
 .exact h' value slice pz s σ H x y v u Q I rx ry q hs
def Fq{r:R2}(hr:jU X r)(ha:PE X a ta)(hb:PE X b tb)(hs:vF b):PE X (.Subscript a b pos) (sr r ta tb):=by intro pz s σ H Q I h;exact Subscript_ (nI ha hb I h fun v u s2 x y H2 I2 rx ry q=>hr a b pz s2 σ H2 x y v u Q I2 rx ry q (hs _ _))
def sI(K:W.Frag):R2:=fun x y H Q=>∃p xs i v,x=.ref p/\y=.int i/\cy K H p xs/\gR xs i=some v/\Q v H
def sG(K:W.Frag):R2:=fun x y H Q=>∃p xs i v,x=.ref p/\y=.int i/\dy K H p xs/\gR xs i=some v/\Q v H
def sH:R2:=fun x y H Q=>∃z i c,x=.str z/\y=.int i/\z.length<=sizeLine/\gR z.cps.toList i=some c/\Q (.str ⟨#[c]⟩) H
def Hs:jU X (sI X.K):=by
 intro value slice pz s σ H x y v u Q I rx ry h hs;obtain⟨p,xs,i,z,rfl,rfl,hq,he,q⟩:=h;cases rx;obtain⟨t,rfl⟩:=ry;obtain⟨its,r,pl,hz⟩:=I.list hq;obtain⟨j,h1,h2,h3,h4,h5⟩:=AZ he;obtain⟨w,ew,rw'⟩:=r.get h2;have hl:=r.length;have hn:=ox;have fin:EP X pz σ Q w s:=⟨z,H,I,rw',q⟩
 by_cases h0:0<=i
 .have hj:i.toNat=j:=by rw[QdX h0 h5]at h1;exact E_ h1
  exact item_listR pl.isList h0 (by omega) (by rw[hj];simpa using ew) fin hs
 .have hj:(i+(its.toArray.size:Int)).toNat=j:=by rw[seqIndex_neg (by omega) h4]at h1;rw[u_,<-hl];exact E_ h1
  exact Qcu (x:=w) pl.isList.typeIs Qdw.lookup
   (wpAny_getItem_list_neg (Q:=fun r s'=>r=w/\EP X pz σ Q r s') pl.isList (by omega) (by rw[u_] <;> omega) (by omega) (by rw[hj];simpa using ew) ⟨rfl,fin⟩) hs
def MW:jU X (sG X.K):=by
 intro value slice pz s σ H x y v u Q I rx ry h hs;obtain⟨p,xs,i,z,rfl,rfl,hq,he,q⟩:=h;cases rx;obtain⟨t,rfl⟩:=ry;obtain⟨its,r,pl,hz⟩:=I.tuple hq;obtain⟨j,h1,h2,h3,h4,h5⟩:=AZ he;obtain⟨w,ew,rw'⟩:=r.get h2;have hl:=r.length;have hn:=ox;have fin:EP X pz σ Q w s:=⟨z,H,I,rw',q⟩
 exact Qcu (x:=w) pl.typeIs Y9.lookup
  (getItem_tuple (j:=j) (Q:=fun r s'=>r=w/\EP X pz σ Q r s') pl (by omega) (by omega) (by rw[u_,<-hl];exact h1) (by simpa using ew) ⟨rfl,fin⟩) hs
def MV:jU X sH:=by
 intro value slice pz s σ H x y v u Q I rx ry h hs;obtain⟨z,i,c,rfl,rfl,hz,he,q⟩:=h;obtain⟨t,rfl⟩:=rx;obtain⟨t',rfl⟩:=ry;obtain⟨j,h1,h2,h3,h4,h5⟩:=AZ he;have hl:z.cps.toList.length=z.length:=by simp[Str.length]
 rw[hl]at h1 h4 h5;have hn:=ox;exact tail_any (typeIs_str s z t) slot_str_getitem.lookup (getItem_str (c:=c) (by have e1:decide (i < -(2^63:Int))=false:=decide_eq_false (by omega);have e2:decide (i>=2^63)=false:=decide_eq_false (by omega);rw[e1,e2,QeF]) (by rw[h1];simpa using h2) ⟨.str ⟨#[c]⟩,H,I.tok _,⟨_,rfl⟩,q⟩) hs
def Ez(K:W.Frag):R2:=fun x y H Q=>sI K x y H Q\/sG K x y H Q\/sH x y H Q
def MU:jU X (Ez X.K):=Hs.or (MW.or MV)
def Sq(its:List Value)(n j:Nat)(u:Value):Qcv (·.setIfInBounds j u) { cls:=.type "list",data:=.seq its.toArray n }={ cls:=.type "list",data:=.seq (its.set j u).toArray n }:=by simp[Qcv]
def Inv.lst{pz:List (Addr×Obj)}{σ:St}{H:Hp}{s:h_}{p:Addr}{xs:List V}(I:Inv X pz σ H s)(h:H p=some (.lst xs)):∃(its:List Value)(n:Nat),aN xs its/\s.heap.get? p=some { cls:=.type "list",data:=.seq its.toArray n }/\xs.length<=sizeLine:=by obtain⟨z,its,n,r,e⟩:=I.hok p _ h;exact⟨its,n,r,e,z⟩
def Inv.lstUpd{pz:List (Addr×Obj)}{σ:St}{H:Hp}{s:h_}{p:Addr}{xs ys:List V}{its its':List Value}{n n':Nat}{f:Obj->Obj}(I:Inv X pz σ H s)(h:H p=some (.lst xs))(ho:s.heap.get? p=some { cls:=.type "list",data:=.seq its.toArray n })(hf:f { cls:=.type "list",data:=.seq its.toArray n }={ cls:=.type "list",data:=.seq its'.toArray n' })(r:aN ys its')(hz:ys.length<=sizeLine)(t:Nat):Inv X pz σ (upd H p (.lst ys)) { s with heap:=s.heap.update p f,toks:=t }:=by
 have e:(s.heap.update p f).get? p=some { cls:=.type "list",data:=.seq its'.toArray n' }:=by rw[Y_ f ho (by rw[hf] <;> rfl),hf]
 refine I.write (x:=p) (e:=p) (by rw[h];trivial) (.inl rfl) (fun b u hb q=>(Qcw _ _ (ZP hb)).trans q) ⟨_,e⟩ ?_;exact⟨hz,its',n',r,e⟩
def FY:V->V->V->Hp->(Hp->Prop)->Prop:=fun o i v H Q=>∃p xs k j,o=.ref p/\i=.int k/\H p=some (.lst xs)/\gu xs.length k=some j/\Q (upd H p (.lst (xs.set j v)))
def Bg:gj X FY:=by
 intro pz s σ H o i v ov iv u Q I ro ri rv h;obtain⟨p,xs,k,j,rfl,rfl,hp,hj,q⟩:=h;cases ro;obtain⟨t,rfl⟩:=ri;obtain⟨its,n,r,ho,hz⟩:=I.lst hp;obtain⟨h1,h2,h3,h4⟩:=HE hj;have hl:=r.length;have hn:=ox;have I':Inv X pz σ (upd H p (.lst (xs.set j v))) { s with heap:=s.heap.update p (Qcv (·.setIfInBounds j u)) }:=I.lstUpd hp ho (Sq its n j u) (r.set rv j) (by rw[ZO];exact hz) s.toks;by_cases h0:0<=k
 .have hk:k.toNat=j:=by rw[QdX h0 h4]at h1;exact E_ h1
  exact W.ki_setAt ho h0 (by omega) (by rw[u_,<-hl];exact h4) (by rw[hk];exact⟨_,I',q⟩)
 .have hk:(k+(its.toArray.size:Int)).toNat=j:=by rw[seqIndex_neg (by omega) h3]at h1;rw[u_,<-hl];exact E_ h1
  exact W.ki_setBack ho (by omega) (by rw[u_,<-hl];exact h3) (by omega) (by rw[hk];exact⟨_,I',q⟩)
def TC(lo hi:Option Int)(n:Nat):(Qbe lo hi none n).1=((HT.sIx n 0 lo:Nat):Int)/\(Qbe lo hi none n).2.1=((HT.sIx n n hi:Nat):Int)/\(Qbe lo hi none n).2.2=1:=by
 refine⟨?_,?_,rfl⟩
 .cases lo with
 |none=>simp[Qbe,HT.sIx]
 |some i=>
   simp only[Qbe,HT.sIx,QdM,show(1:Int)>0 by decide,if_true];by_cases h:i<0
   .simp only[h,if_true] <;> omega
   .simp only[h,if_false] <;> omega
 .cases hi with
 |none=>simp[Qbe,HT.sIx]
 |some i=>
   simp only[Qbe,HT.sIx,QdM,show(1:Int)>0 by decide,if_true];by_cases h:i<0
   .simp only[h,if_true] <;> omega
   .simp only[h,if_false] <;> omega
def TK(its:List Value)(lo hi:Option Int):slicePick its.toArray lo hi none=((its.drop (HT.sIx its.length 0 lo)).take (HT.sIx its.length its.length hi-HT.sIx its.length 0 lo)).toArray:=by obtain⟨h1,h2,h3⟩:=TC lo hi its.toArray.size;unfold slicePick;rw[h1,h2,h3];simp only[sliceRange_one,pick_run,u_] <;> rfl
def Ex(K:W.Frag):V->Option Int->Option Int->Hp->VK->Prop:=fun x lo hi H Q=>∃a xs,x=.ref a/\cy K H a xs/\∀p,H p=none->Q (.ref p) (upd H p (.lst (i5 xs lo hi)))
def O6:j8 X (Ex X.K):=by intro pz s σ H x v vl vu lo hi sl Q I rx hs pl pu h;obtain⟨a,xs,rfl,hx,q⟩:=h;cases rx;obtain⟨its,r,ht,hz⟩:=I.list hx;have hlen:=r.length;refine⟨"list",_,Qdw.lookup,ht.isList.typeIs,?_⟩;refine wpAny_getItem_list_slice ht.isList hs pl pu .none (by simp) ?_ (by rw[u_] <;> omega);rw[TK,<-hlen];refine⟨.ref s.heap.objs.size,_,I.laid (t':=s.toks) (o:=.lst (i5 xs lo hi)) (fun b ob q=>c_ _ q) (y_ _) ?_,rfl,q _ (I.hok.fresh (y_ _))⟩;exact⟨Y8 (Jw xs lo hi) hz,_,0,(r.drop (HT.sIx xs.length 0 lo)).take (HT.sIx xs.length xs.length hi-HT.sIx xs.length 0 lo),t_ _ rfl⟩
def hV:V->Bool
|.non=>true
|.bl _=>true
|.int _=>true
|.str _=>true
|_=>false
def i0:V->V->Bool
|.non,.non=>true
|.bl a,.bl b=>a==b
|.bl a,.int b=>(if a then 1 else 0)==b
|.int a,.bl b=>a==(if b then 1 else 0)
|.int a,.int b=>a==b
|.str a,.str b=>a==b
|_,_=>false
def LS{A:W_}{s:h_}{y x:V}{u v:Value}(ry:aS y u)(rx:aS x v)(fy:hV y=true)(fx:hV x=true):SeqAt.EqAt A s u v (i0 y x):=by cases y with
|non=>cases ry;cases x with
 |non=>cases rx;exact SeqAt.EqAt.same _
 |bl b=>cases rx;exact SeqAt.EqAt.none_bool b
 |int b=>obtain⟨t,rfl⟩:=rx;exact SeqAt.EqAt.none_int b t
 |str b=>obtain⟨t,rfl⟩:=rx;exact SeqAt.EqAt.none_str b t
 |_=>exact absurd (show false=true from fx) k_
|bl a=>cases ry;cases x with
 |non=>cases rx;exact SeqAt.EqAt.bool_none a
 |bl b=>cases rx;exact SeqAt.EqAt.bool_bool a b
 |int b=>obtain⟨t,rfl⟩:=rx;exact SeqAt.EqAt.bool_int a b t
 |str b=>obtain⟨t,rfl⟩:=rx;exact SeqAt.EqAt.bool_str a b t
 |_=>exact absurd (show false=true from fx) k_
|int a=>obtain⟨t',rfl⟩:=ry;cases x with
 |non=>cases rx;exact SeqAt.EqAt.int_none a t'
 |bl b=>cases rx;exact SeqAt.EqAt.int_bool a t' b
 |int b=>obtain⟨t,rfl⟩:=rx;exact SeqAt.EqAt.int_int a t' b t
 |str b=>obtain⟨t,rfl⟩:=rx;exact Qde a t' b t
 |_=>exact absurd (show false=true from fx) k_
|str a=>obtain⟨t',rfl⟩:=ry;cases x with
 |non=>cases rx;exact SeqAt.EqAt.str_none a t'
 |bl b=>cases rx;exact SeqAt.EqAt.str_bool a t' b
 |int b=>obtain⟨t,rfl⟩:=rx;exact Qdf a t' b t
 |str b=>obtain⟨t,rfl⟩:=rx;exact SeqAt.EqAt.str_str a t' b t
 |_=>exact absurd (show false=true from fx) k_
|_=>exact absurd (show false=true from fy) k_
def fS(x:V)(u:Value):Bool:=match u with
|.none=>i0 .non x
|.bool b=>i0 (.bl b) x
|.int i _=>i0 (.int i) x
|.str z _=>i0 (.str z) x
|_=>false
def uG{x y:V}{u:Value}(r:aS y u)(f:hV y=true):fS x u=i0 y x:=by cases y with
|non=>cases r;rfl
|bl b=>cases r;rfl
|int i=>obtain⟨t,rfl⟩:=r;rfl
|str z=>obtain⟨t,rfl⟩:=r;rfl
|_=>exact absurd (show false=true from f) k_
def qj{x:V}:∀{xs:List V}{us:List Value},aN xs us->xs.all hV=true->us.any (fS x)=xs.any fun y=>i0 y x
|_,_,.nil,_=>rfl
|y::xs,u::us,.cons r t,f=>by rw[Qas,P_]at f;rw[Qat,Qat,uG r f.1,qj t f.2]
def o6{A:W_}{s:h_}{x:V}{v:Value}(rx:aS x v)(fx:hV x=true):∀{xs:List V}{us:List Value},aN xs us->xs.all hV=true->∀u∈us,SeqAt.EqAt A s u v (fS x u)
|_,_,.nil,_=>fun u hu=>by cases hu
|y::xs,u::us,.cons r t,f=>fun u' hu=>by
  rw[Qas,P_]at f;rcases e_.mp hu with rfl|hu
  .rw[uG r f.1];exact LS r rx f.1 fx
  .exact o6 rx fx t f.2 u' hu
def yM(x:V)(xs:List V):Bool:=xs.any fun y=>i0 y x
def EA(K:W.Frag)(neg:Bool):R2:=fun x y H Q=>∃p xs,y=.ref p/\(cy K H p xs\/dy K H p xs)/\hV x=true/\xs.all hV=true/\Q (.bl (if neg then ! yM x xs else yM x xs)) H
def Rv:cu X (Y6 .In) (EA X.K false):=by
 intro pz s σ H x y v u Q I rx ry h;obtain⟨p,xs,rfl,hq,fx,fs,q⟩:=h;cases ry;rcases hq with hq|hq
 .obtain⟨its,r,pl,hz⟩:=I.list hq;refine SeqAt.in_listAt (fS x) pl.isList (fun w hw=>o6 rx fx r fs w (by simpa using hw)) ⟨.bl _,H,I,rfl,?_⟩;rw[show its.toArray.any (fS x)=its.any (fS x)by simp,qj r fs];exact q
 .obtain⟨its,r,pl,hz⟩:=I.tuple hq;refine SeqAt.in_tupleAt (fS x) pl (fun w hw=>o6 rx fx r fs w (by simpa using hw)) ⟨.bl _,H,I,rfl,?_⟩;rw[show its.toArray.any (fS x)=its.any (fS x)by simp,qj r fs];exact q
def Tr:cu X (Y6 .NotIn) (EA X.K true):=by
 intro pz s σ H x y v u Q I rx ry h;obtain⟨p,xs,rfl,hq,fx,fs,q⟩:=h;cases ry;rcases hq with hq|hq
 .obtain⟨its,r,pl,hz⟩:=I.list hq;refine SeqAt.notIn_listAt (fS x) pl.isList (fun w hw=>o6 rx fx r fs w (by simpa using hw)) ⟨.bl _,H,I,rfl,?_⟩;rw[show its.toArray.any (fS x)=its.any (fS x)by simp,qj r fs];exact q
 .obtain⟨its,r,pl,hz⟩:=I.tuple hq;refine SeqAt.notIn_tupleAt (fS x) pl (fun w hw=>o6 rx fx r fs w (by simpa using hw)) ⟨.bl _,H,I,rfl,?_⟩;rw[show its.toArray.any (fS x)=its.any (fS x)by simp,qj r fs];exact q
def Ts:cu X (Y6 .NotIn) (fun x y H Q=>∃i j,x=.str i/\y=.str j/\Q (.bl (!(!(Z4 j i 0 j.length 1).isEmpty))) H):=by intro pz s σ H x y v u Q I rx ry h;obtain⟨i,j,rfl,rfl,q⟩:=h;obtain⟨t,rfl⟩:=rx;obtain⟨t',rfl⟩:=ry;exact notIn_str ⟨.bl _,H,I,rfl,q⟩
def gp.or{f:Value}{r r':List V->Hp->VK->Prop}(h:gp X f r)(h':gp X f r'):gp X f (fun xs H Q=>r xs H Q\/r' xs H Q):=by
 intro pz s σ H xs us Q I rs q;rcases q with q|q
 .exact h pz s σ H xs us Q I rs q
 .exact h' pz s σ H xs us Q I rs q
def TF:gp X (.type "list") (fun xs H Q=>∃p ys,xs=[.ref p]/\(cy X.K H p ys\/dy X.K H p ys)/\∀l,H l=none->Q (.ref l) (upd H l (.lst ys))):=by
 intro pz s σ H xs us Q I r h;obtain⟨p,ys,rfl,hq,q⟩:=h;obtain⟨u,rfl,rx⟩:=cY r;cases rx;have fin:∀(its:List Value),aN ys its->ys.length<=sizeLine->∀(h':Heap)(c':Nat),(∀b o',s.heap.get? b=some o'->h'.get? b=some o') ->h'.get? s.heap.objs.size=some { cls:=.type "list",dict:=none,data:=.seq its.toArray c',slots:=#[] }->EP X pz σ Q (.ref s.heap.objs.size) { s with heap:=h' }:=fun its r' hz h' c' kp e=>⟨.ref s.heap.objs.size,_,I.laid (t':=s.toks) kp (y_ _) (show du X.prog X.w _ h' _ (.lst ys)from⟨hz,its,c',r',e⟩),rfl,q _ (I.hok.fresh (y_ _))⟩
 rcases hq with hq|hq
 .obtain⟨its,r',pl,hz⟩:=I.list hq;have hlen:=r'.length;obtain⟨o,ho,hc,n,hd⟩:=pl.isList;exact call_list_seq p (.inl rfl) ho hc hd (fun h' c' kp e=>fin its r' hz h' c' kp e) (by simp only[u_] <;> omega)
 .obtain⟨its,r',pl,hz⟩:=I.tuple hq;have hlen:=r'.length;obtain⟨o,ho,hc,n,hd⟩:=pl;exact call_list_seq p (.inr rfl) ho hc hd (fun h' c' kp e=>fin its r' hz h' c' kp e) (by simp only[u_] <;> omega)
def T3:gp X (.type "tuple") (fun xs H Q=>∃p ys,xs=[.ref p]/\((cy X.K H p ys/\∀l,H l=none->Q (.ref l) (upd H l (.tup ys)))\/(dy X.K H p ys/\Q (.ref p) H))):=by
 intro pz s σ H xs us Q I r h;obtain⟨p,ys,rfl,h⟩:=h;obtain⟨u,rfl,rx⟩:=cY r;cases rx;rcases h with⟨hq,q⟩|⟨hq,q⟩
 .obtain⟨its,r',pl,hz⟩:=I.list hq;have hlen:=r'.length;refine call_tuple_list pl.isList (fun h' kp=>?_) (by simp only[u_] <;> omega);have I1:Inv X pz σ H { s with heap:=h' }:=I.kept (t':=s.toks) kp;have I2:Inv X pz σ (upd H h'.objs.size (.tup ys)) { s with heap:=h'.push { cls:=.type "tuple",data:=.seq its.toArray } }:=I1.laid (t':=s.toks) (fun b o e=>c_ _ e) (y_ _) (show du X.prog X.w _ _ _ (.tup ys)from⟨hz,its,r',QdL _ _,_,t_ _ rfl,rfl⟩);exact⟨.ref h'.objs.size,_,I2,rfl,q _ (I1.hok.fresh (y_ _))⟩
 .obtain⟨its,r',pl,hz⟩:=I.tuple hq;exact call_tuple_same pl ⟨.ref p,H,I,rfl,q⟩
def pG(K:W.Frag)(T:String)(x:V)(H:Hp):Prop:=match x with
|.str _=>T = "str"
|.int _=>T = "int"
| .ref p=>(T = "list"/\∃xs,cy K H p xs)\/(T = "tuple"/\((∃o,K.lookup p=some o/\o.cls=.type "tuple"/\o.dict=none)\/∃xs,Rd H p (.tup xs))) \/
   (T = "dict"/\((∃kvs,Rd H p (.dK kvs))\/∃kvs,H p=some (.dT kvs)))\/(T = "set"/\∃S n,H p=some (.set S n))
|_=>False
def GB{pz:List (Addr×Obj)}{σ:St}{H:Hp}{s:h_}{T:String}{x:V}{v:Value}(I:Inv X pz σ H s)(r:aS x v)(ty:pG X.K T x H):s.TypeIs v T/\∀a,v=.ref a->∃ob,s.heap.get? a=some ob/\ob.dict=none:=by cases x with
|str z=>obtain⟨t,rfl⟩:=r;cases(show T = "str" from ty);exact⟨typeIs_str s z t,fun _ e=>nomatch e⟩
|int i=>obtain⟨t,rfl⟩:=r;cases(show T = "int" from ty);exact⟨Qcx s i t,fun _ e=>nomatch e⟩
|ref p=>
  cases r;rcases ty with⟨rfl,xs,hq⟩|⟨rfl,⟨o,hk,hc,hd⟩|⟨xs,hq⟩⟩|⟨rfl,hk⟩|⟨rfl,S,n,hk⟩
  .obtain⟨its,_,pl,_⟩:=I.list hq;refine⟨pl.isList.typeIs,fun a e=>?_⟩;cases e;obtain⟨o,n,e,c,hd,_⟩:=pl;exact⟨o,e,hd⟩
  .refine⟨⟨o,I.kIn p o hk,hc⟩,fun a e=>?_⟩;cases e;exact⟨o,I.kIn _ o hk,hd⟩
  .obtain⟨_,its,_,⟨o,ho,hc,_⟩,o2,ho2,hd2⟩:=hq.ok I.hok;refine⟨⟨o,ho,hc⟩,fun a e=>?_⟩;cases e;exact⟨o2,ho2,hd2⟩
  .have z:∃o,s.heap.get? p=some o/\o.ExactDict:=by
    rcases hk with⟨kvs,hk⟩|⟨kvs,hk⟩
    .obtain⟨_,_,_,_,o,_,_,e,ex,_⟩:=(show du X.prog X.w H s.heap p (.dK kvs)from hk.ok I.hok)
     exact⟨o,e,ex⟩
    .obtain⟨_,_,_,_,o,_,_,e,ex,_⟩:=I.hok p _ hk;exact⟨o,e,ex⟩
   obtain⟨o,e,ex⟩:=z;refine⟨⟨o,e,ex.1⟩,fun a e2=>?_⟩;cases e2;exact⟨o,e,ex.2.1⟩
  .obtain⟨o,_,_,_,e,ex,_⟩:=I.hok p _ hk;refine⟨⟨o,e,ex.1⟩,fun a e2=>?_⟩;cases e2;exact⟨o,e,ex.2.1⟩
|_=>exact Y2 ty
def Eh(K:W.Frag)(T:String)(r:V->List V->Hp->VK->Prop)(to:TE):TE:=fun σ H Q=>to σ H fun x H1=>pG K T x H1/\r x [] H1 Q
def UM(K:W.Frag)(T:String)(r:V->List V->Hp->VK->Prop)(to:TE)(t:TA):TE:=fun σ H Q=>to σ H fun x H1=>pG K T x H1/\t σ H1 fun xs H2=>r x xs H2 Q
variable{o:Expr}{es:List Expr}{to:TE}{t:TA}{name:Str}{apos cpos:Pos}{T id:String}{r:V->List V->Hp->VK->Prop}
def MD(pa:Qdi T)(slot:Slot T name id)(Y:typeOf (.builtin id)=pure (.type "method_descriptor"))(hm:nN X id r)(ho:PE X o to)(z:Qac o name X.env (eval o X.env)=eval o X.env:=by rfl)(U:(apos.endLine==cpos.line)=true:=by rfl):PE X (.Call (.Attribute o name apos) [] [] cpos) (Eh X.K T r to):=by intro pz s σ H Q I h;refine wpAny_Call_method0_late z U (bL (ho pz s σ H _ I h) fun v s1 ⟨x,H1,I1,r1,ty,q1⟩=>?_);obtain⟨h1,h2⟩:=GB I1 r1 ty;exact⟨T,id,pa,slot,Y,h1,h2,Qbm rfl (PySem.evalArgs_none (hm pz s1 σ H1 x [] v [] Q I1 r1 .nil q1))⟩
def zX(pa:Qdi T)(slot:Slot T name id)(ld:typeOf (.builtin id)=pure (.type "method_descriptor"))(hm:nN X id r)(ho:PE X o to)(ha:PA X (e::es) t)(U:Qac o name X.env (eval o X.env)=eval o X.env:=by rfl)(Z:((backTo cpos (f_ (e::es) X.env)).all (fun x=>! x.1)&&(QbX cpos (QaP [] X.env)).all (fun x=>x.1.isSome)
   && decide ((e::es).length+([]:List Qcy).length+(if ([]:List Qcy).isEmpty then 0 else 1)<30))=true:=by rfl)(Y:(apos.endLine==cpos.line)=true:=by rfl)(hs:f_ (e::es) X.env=(false,eval e X.env)::f_ es X.env:=by rfl)(z:(backTo cpos (f_ es X.env)).any (·.1)=false:=by rfl):PE X (.Call (.Attribute o name apos) (e::es) [] cpos) (UM X.K T r to t):=by intro pz s σ H Q I h;refine wpAny_Call_method_late U Z Y rfl (bL (ho pz s σ H _ I h) fun v s1 ⟨x,H1,I1,r1,ty,q1⟩=>?_);obtain⟨h1,h2⟩:=GB I1 r1 ty;refine⟨T,id,pa,slot,ld,h1,h2,?_⟩;have hA:=ha cpos pz s1 σ H1 _ I1 q1;rw[hs]at hA ⊢;refine Qbm (by show(false || (backTo cpos (f_ es X.env)).any (·.1))=false;rw[z] <;> rfl) (QcO ?_);exact bL hA fun us s2 ⟨vs,H2,I2,r2,q2⟩=>hm pz s2 σ H2 x vs v us Q I2 r1 r2 q2
end
def Kx(X:Cx)(id:String)(r:V->List V->Hp->VK->Prop):Prop:=∀(pz:List (Addr×Obj))(s:h_)(σ:St)(H:Hp)(x:V)(xs:List V)(v:Value)(us:List Value)(Q:VK),Inv X pz σ H s->aS x v->aN xs us->r x xs H Q ->w_ (B_ X.prog X.w) X.A (call (.builtin id) (v::us)) (EP X pz σ Q) X.xe s
def aN.one{x:V}{us:List Value}(h:aN [x] us):∃u,us=[u]/\aS x u:=by cases h with
|cons r t=>cases t;exact⟨_,rfl,r⟩
def aN.zero:∀{us:List Value},aN [] us->us=[]
|_,.nil=>rfl
def aN.eraseIdx:∀{xs:List V}{us:List Value}(i:Nat),aN xs us->aN (xs.eraseIdx i) (us.eraseIdx i)
|_,_,_,.nil=>.nil
|_,_,0,.cons _ t=>t
|_,_,i+1,.cons r t=>.cons r (aN.eraseIdx i t)
def aN.reverse{xs:List V}{us:List Value}(h:aN xs us):aN xs.reverse us.reverse:=by induction h with
|nil=>exact .nil
|cons r t ih=>rw[Qbn,Qbn];exact aN.append ih (.cons r .nil)
def aN.rep{xs:List V}{us:List Value}(h:aN xs us):∀k:Nat,aN (d_ k xs).flatten (d_ k us).flatten
|0=>.nil
|k+1=>by rw[ZN,ZN,Qap,Qap];exact aN.append h (aN.rep h k)
def Bz(its:List Value):∀(k:Nat)(z:List Value),Qbw (fun x1 x2=>x1++x2) z.toArray (d_ k its.toArray)=(z++(d_ k its).flatten).toArray
|0,z=>by simp
|k+1,z=>by
  have e:z.toArray++its.toArray=(z++its).toArray:=by simp
  have e2:(z++its)++(d_ k its).flatten=z++(d_ (k+1) its).flatten:=by rw[ZN,Qap,Qcb]
  rw[<-e2,<-Bz its k (z++its),<-e,ZN,List.foldl_cons]
variable{pz:List (Addr×Obj)}{σ:St}{H:Hp}{s:h_}
section
variable{l b:Addr}{xs ys zs:List V}
def Inv.lset{its its':List Value}{n:Nat}{f:Array Value->Array Value}{t':Nat}(I:Inv X pz σ H s)(hH:H l=some (.lst xs))(e:s.heap.get? l=some { cls:=.type "list",data:=.seq its.toArray n })(hf:f its.toArray=its'.toArray)(hv:aN ys its')(hz:ys.length<=sizeLine):Inv X pz σ (upd H l (.lst ys)) { s with heap:=s.heap.update l (Qcv f),toks:=t' }:=by have q:=PySem.IsL.update e f;rw[hf]at q;refine I.write (x:=l) (e:=l) (by rw[hH];exact trivial) (.inl rfl) (fun b' u hb hu=>(Qcw s.heap (Qcv f) (ZP hb)).trans hu) ⟨_,q⟩ ?_;exact⟨hz,its',_,hv,q⟩
def Inv.lnew{its:List Value}{t':Nat}(I:Inv X pz σ H s)(hv:aN ys its)(hz:ys.length<=sizeLine):Inv X pz σ (upd H s.heap.objs.size (.lst ys)) { s with heap:=s.heap.push { cls:=.type "list",data:=.seq its.toArray },toks:=t' }:=I.laid (fun _ _ q=>c_ _ q) (y_ _) ⟨hz,its,0,hv,t_ _ rfl⟩
def Inv.fresh(I:Inv X pz σ H s):H s.heap.objs.size=none:=I.hok.fresh (y_ _)
def Inv.lstM(I:Inv X pz σ H s)(hH:H l=some (.lst xs)):xs.length<=sizeLine/\∃(its:List Value)(n:Nat),aN xs its/\xs.length=its.length/\s.heap.get? l=some { cls:=.type "list",data:=.seq its.toArray n }:=by obtain⟨z,its,n,r,e⟩:=I.hok l _ hH;exact⟨z,its,n,r,r.length,e⟩
def QG{n:Nat}(h:n<=sizeLine):Qa3 n=false:=by unfold Qa3;exact decide_eq_false (by omega)
end
def Hr:V->List V->Hp->VK->Prop:=fun x vs H Q=>∃l xs y,x=.ref l/\vs=[y]/\H l=some (.lst xs)/\xs.length<sizeLine/\Q .non (upd H l (.lst (xs++[y])))
def pf:Kx X "list.append" Hr:=by intro pz s σ H x vs v us Q I rx rv h;obtain⟨l,xs,y,rfl,rfl,hH,hz,q⟩:=h;cases rx;obtain⟨u,rfl,ru⟩:=rv.one;obtain⟨z,its,n,r,hl,e⟩:=I.lstM hH;refine QaB F.slot_list_append ⟨_,e,rfl⟩ F.entry_list_append (F.args_list_append_2 _ _) (PySem.list_append l its.toArray n u (by rw[u_];omega)) ⟨e,?_⟩;refine⟨.non,_,I.lset (its':=its++[u]) hH e (by simp) (r.append (.cons ru .nil)) ?_,rfl,q⟩;rw[Y3,Qbt];omega
def Qf:V->List V->Hp->VK->Prop:=fun x vs H Q=>∃l xs,x=.ref l/\vs=[]/\H l=some (.lst xs)/\Q .non (upd H l (.lst xs.reverse))
def Sr:Kx X "list.reverse" Qf:=by intro pz s σ H x vs v us Q I rx rv h;obtain⟨l,xs,rfl,rfl,hH,q⟩:=h;cases rx;have U:=rv.zero;subst U;obtain⟨z,its,n,r,hl,e⟩:=I.lstM hH;refine QaB F.slot_list_reverse ⟨_,e,rfl⟩ F.entry_list_reverse (F.args_list_reverse_1 _) (AutoSeq1.list_reverse_list_0 l its.toArray n (by rw[u_];omega)) ⟨e,?_⟩;refine⟨.non,_,I.lset (its':=its.reverse) hH e (by simp) r.reverse ?_,rfl,q⟩;rw[Qc2];omega
def Ey:R2:=fun x y H Q=>∃l k xs,x=.ref l/\y=.int k/\H l=some (.lst xs)/\-(2^63)<=k/\k<2^63/\xs.length*k.toNat<=sizeLine /\∀p,H p=none->Q (.ref p) (upd H p (.lst (d_ k.toNat xs).flatten))
def A5{α:Type}(xs:List α)(k:Nat):(d_ k xs).flatten.length=k*xs.length:=by induction k with
|zero=>simp
|succ k ih=>rw[ZN,Qap,Y3,ih,Nat.succ_mul,Nat.add_comm]
def MA:cu X (Z_ .Mult) Ey:=by
 intro pz s σ H x y v u Q I rx ry h;obtain⟨l,k,xs,rfl,rfl,hH,h1,h2,hz,q⟩:=h;cases rx;obtain⟨t,rfl⟩:=ry;obtain⟨z,its,n,r,hl,e⟩:=I.lstM hH;have hlen:its.toArray.size*k.toNat<=sizeLine:=by rw[u_,<-hl];exact hz
 have Z:¬ its.toArray.size*k.toNat>(2^63-1)/8:=by
  have:(sizeLine:Nat)<=(2^63-1)/8:=by decide
  omega
 have BT:¬ (! Qb0 k)=true:=by rw[fitsIndex_both h1 h2];exact k_
 have Y:¬ Qa3 (its.toArray.size*k.toNat)=true:=by rw[QG hlen];exact k_
 have ld:Qbw (fun x1 x2=>x1++x2) #[] (d_ (if its.toArray.isEmpty=true then 0 else k.toNat) its.toArray)=(d_ k.toNat its).flatten.toArray:=by
  have f0:∀m:Nat,Qbw (fun x1 x2=>x1++x2) #[] (d_ m its.toArray)=(d_ m its).flatten.toArray:=fun m=>by have:=Bz its m [];rw[Qa7]at this;exact this
  rw[f0];cases its with
 |nil=>simp
 |cons a r'=>rw[if_neg (by simp)]
 refine Qb8 (T := "list") (U := "int") (by decide) ⟨_,e,rfl⟩ (fun s'=>Qcx s' k t) noFill_list_mul F.fills_int_mul F.slot_int_rmul repeat_list F.slot_int_index.lookup
  (QaB F.slot_int_rmul (Qcx s k t) F.entry_int_rmul (F.args_int_rmul_2 _ _) (int___rmul___int_list k t l its.toArray n)
   ⟨e,rfl,⟨_,e,rfl⟩,QaB F.slot_list_mul ⟨_,e,rfl⟩ F.entry_list_mul (F.args_list_mul_2 _ _) (AutoListH.list___mul___list_int_3 l its.toArray n k t BT Z Y) ⟨e,?_⟩⟩)
 rw[ld];exact⟨.ref _,_,I.lnew (t':=s.toks) (r.rep k.toNat) (by rw[A5,Qdx];exact hz),rfl,q _ I.fresh⟩
section
variable{κ:Type}[DecidableEq κ]
def eu(kvs:List (κ×V))(k:κ):Option V:=(kvs.find? fun kv=>decide (kv.1=k)).map (·.2)
def eQ(kvs:List (κ×V))(k:κ)(v:V):List (κ×V):=if (kvs.any fun kv=>decide (kv.1=k))=true then kvs.map (fun kv=>if kv.1=k then(kv.1,v)else kv)else kvs++[(k,v)]
def vO{p:κ×V}{r:List (κ×V)}{k:κ}(e:p.1=k):eu (p::r) k=some p.2:=by simp[eu,R_,e]
def qG{p:κ×V}{r:List (κ×V)}{k:κ}(e:¬ p.1=k):eu (p::r) k=eu r k:=by simp[eu,R_,e]
def IE(k:κ):∀kvs:List (κ×V),(kvs.any fun kv=>decide (kv.1=k))=(eu kvs k).isSome
|[]=>rfl
|p::r=>by
  rw[Qat];by_cases e:p.1=k
  .simp only[vO e,decide_eq_true e,Bool.true_or,Option.isSome_some]
  .rw[qG e,decide_eq_false e,Qc9];exact IE k r
def JY(kvs:List (κ×V))(k:κ)(v:V):(eQ kvs k v).length<=kvs.length+1:=by
 unfold eQ;split
 .rw[q_];omega
 .rw[Y3,T_,Qd3];omega
def dN.isSome_eq{o:Option V}{u:Option Value}(r:dN o u):o.isSome=u.isSome:=by cases o with
|none=>cases u with
 |none=>rfl
 |some _=>exact(show False from r).elim
|some _=>cases u with
 |none=>exact(show False from r).elim
 |some _=>rfl
def KV.val{kvs:List (κ×V)}{vs:List (κ×Value)}(r:KV kvs vs)(k:κ):dN (eu kvs k) (QcY vs k):=by
 unfold KV at r
 induction r with
|nil=>exact True.intro
|@cons p q ps qs h t ih=>
  obtain⟨h1,h2⟩:=h;by_cases e:p.1=k
  .have e':q.1=k:=h1.symm.trans e;have b:QcY (q::qs) k=some q.2:=by simp[QcY,R_,e']
   rw[vO e,b];exact h2
  .have e':¬ q.1=k:=fun z=>e (h1.trans z);have b:QcY (q::qs) k=QcY qs k:=by simp[QcY,R_,e']
   rw[qG e,b];exact ih
def KV.any{kvs:List (κ×V)}{vs:List (κ×Value)}(r:KV kvs vs)(k:κ):(kvs.any fun kv=>decide (kv.1=k))=vs.any fun kv=>decide (kv.1=k):=by
 unfold KV at r
 induction r with
|nil=>rfl
|cons h t ih=>rw[Qat,Qat,ih,h.1]
def KV.repl{kvs:List (κ×V)}{vs:List (κ×Value)}(r:KV kvs vs)(k:κ){y:V}{u:Value}(ry:aS y u):KV (kvs.map fun kv=>if kv.1=k then(kv.1,y)else kv) (vs.map fun kv=>if kv.1=k then(kv.1,u)else kv):=by
 unfold KV at r ⊢
 induction r with
|nil=>exact .nil
|@cons p q ps qs h t ih=>
  rw[U_,U_];refine .cons ?_ ih;obtain⟨h1,h2⟩:=h;by_cases e:p.1=k
  .rw[if_pos e,if_pos (h1.symm.trans e)];exact⟨h1,ry⟩
  .rw[if_neg e,if_neg (fun z=>e (h1.trans z))];exact⟨h1,h2⟩
def KV.put{kvs:List (κ×V)}{vs:List (κ×Value)}(r:KV kvs vs)(k:κ){y:V}{u:Value}(ry:aS y u):KV (eQ kvs k y) (stored vs k u):=by
 unfold eQ stored;rw[r.any k];by_cases e:(vs.any fun kv=>decide (kv.1=k))=true
 .rw[if_pos e,if_pos e];exact r.repl k ry
 .rw[if_neg e,if_neg e];exact Paired.snoc r ⟨rfl,ry⟩
def KV.length{kvs:List (κ×V)}{vs:List (κ×Value)}(r:KV kvs vs):kvs.length=vs.length:=Paired.length r
end
def pQ{P:C_}{w:N_}{k:bH}{u:Value}(r:aS (kV k) u):(ic P w).is k u=true:=by cases k with
|inl i=>obtain⟨t,e⟩:=(show ∃t,u=Value.int i t from r);subst e;exact S4 P w i t
|inr x=>obtain⟨t,e⟩:=(show ∃t,u=Value.str x t from r);subst e;exact S9 P w x t
def Ji{P:C_}{w:N_}:∀{ks:List bH}{us:List Value},aN (ks.map kV) us->ItemsAre (ic P w) ks us
|[],_,r=>by rw[QeL]at r;cases r;exact .nil
|k::ks,_,r=>by rw[U_]at r;cases r with
 |cons h t=>exact .cons (pQ h) (Ji t)
abbrev KT(H:Hp):List (List bH×V)->List (List bH×Addr×Value)->Prop:=Paired fun p q=>p.1=q.1/\H q.2.1=some (.tup (p.1.map kV))/\aS p.2 q.2.2
def KT.val{H:Hp}{kvs:List (List bH×V)}{xs:List (List bH×Addr×Value)}(r:KT H kvs xs)(k:List bH):dN (eu kvs k) ((QdY xs k).map (·.2)):=by induction r with
|nil=>exact True.intro
|@cons p q ps qs h t ih=>
  obtain⟨h1,_,h2⟩:=h;by_cases e:p.1=k
  .have e':q.1=k:=h1.symm.trans e;have b:QdY (q::qs) k=some q.2:=by simp[QdY,R_,e']
   rw[vO e,b];exact h2
  .have e':¬ q.1=k:=fun z=>e (h1.trans z);have b:QdY (q::qs) k=QdY qs k:=by simp[QdY,R_,e']
   rw[qG e,b];exact ih
def KT.repl{H:Hp}{kvs:List (List bH×V)}{xs:List (List bH×Addr×Value)}(r:KT H kvs xs)(k:List bH){y:V}{u:Value}(ry:aS y u):KT H (kvs.map fun kv=>if kv.1=k then(kv.1,y)else kv) (xs.map (putAt k u)):=by induction r with
|nil=>exact .nil
|@cons p q ps qs h t ih=>
  rw[U_,U_];refine .cons ?_ ih;obtain⟨h1,h2,h3⟩:=h;unfold putAt;by_cases e:p.1=k
  .rw[if_pos e,if_pos (h1.symm.trans e)];exact⟨h1,h2,ry⟩
  .rw[if_neg e,if_neg (fun z=>e (h1.trans z))];exact⟨h1,h2,h3⟩
def KT.put{H:Hp}{kvs:List (List bH×V)}{xs:List (List bH×Addr×Value)}(r:KT H kvs xs)(k:List bH){b:Addr}{y:V}{u:Value}(hb:H b=some (.tup (k.map kV)))(ry:aS y u):KT H (eQ kvs k y) (storedH xs k b u):=by
 have e:(kvs.any fun kv=>decide (kv.1=k))=(QdY xs k).isSome:=by rw[IE,(r.val k).isSome_eq,Qcc]
 unfold eQ storedH;rw[e];by_cases q:(QdY xs k).isSome=true
 .rw[if_pos q,if_pos q];exact r.repl k ry
 .rw[if_neg q,if_neg q];exact Paired.snoc r ⟨rfl,hb,ry⟩
def KT.keeps{H H':Hp}{kvs:List (List bH×V)}{xs:List (List bH×Addr×Value)}(r:KT H kvs xs)(ht:∀b ys,H b=some (.tup ys)->H' b=some (.tup ys)):KT H' kvs xs:=Paired.mapP r fun _ _ z=>⟨z.1,ht _ _ z.2.1,z.2.2⟩
variable{a:Addr}
section
variable{P:C_}{w:N_}{h:Heap}
def FZ{u:HO}(ok:dH P w H h)(e:Rd H a u):du P w H h a u:=e.ok ok
def oh{kvs:List (bH×V)}(ok:dH P w H h)(e:Rd H a (.dK kvs)):kvs.length<=sizeLine/\(a==Qar)=false/\∃vs,KV kvs vs/\h.DictOf (ic P w) a vs:=show du P w H h a (.dK kvs)from FZ ok e
def LO{kvs:List (bH×V)}(ok:dH P w H h)(e:H a=some (.dK kvs)):kvs.length<=sizeLine/\(a==Qar)=false/\∃vs,KV kvs vs/\h.DictOf (ic P w) a vs:=oh ok (.inl e)
def qf{ks:List bH}(ok:dH P w H h)(e:H a=some (.tup (ks.map kV))):(QcW (ic P w)).is h ks a:=by
 obtain⟨_,its,r,⟨o,h1,h2,n,h3⟩,_⟩:=(show du P w H h a (.tup (ks.map kV))from ok a _ e)
 exact⟨o,its.toArray,n,h1,h2,h3,by simpa using Ji r⟩
def pN{kvs:List (List bH×V)}(ok:dH P w H h)(e:Rd H a (.dT kvs)):kvs.length<=sizeLine/\(a==Qar)=false /\∃xs,KT H kvs xs/\h.DictOfH (QcW (ic P w)) a xs:=by
 obtain⟨z,y,xs,r,o,es,ep,h1,h2,h3,h4,h5⟩:=(show du P w H h a (.dT kvs)from FZ ok e)
 refine⟨z,y,xs,r,o,es,ep,h1,h2,h3,h4,fun x hx=>?_,h5⟩;have all:∀{l:List (List bH×V)}{m:List (List bH×Addr×Value)},KT H l m->∀x∈m,(QcW (ic P w)).is h x.1 x.2.1:=by
  intro l m q
  induction q with
 |nil=>intro x hx;exact nomatch hx
 |@cons p q ps qs hq t ih=>
   intro x hx;rcases e_.mp hx with e|hx
   .subst e;exact qf ok (by rw[<-hq.1];exact hq.2.1)
   .exact ih x hx
 exact all r x hx
def LP{kvs:List (List bH×V)}(ok:dH P w H h)(e:H a=some (.dT kvs)):kvs.length<=sizeLine/\(a==Qar)=false /\∃xs,KT H kvs xs/\h.DictOfH (QcW (ic P w)) a xs:=pN ok (.inl e)
end
def i9(H:Hp)(a:Addr)(y:V)(r:Option V):Prop:=(∃kvs k,Rd H a (.dK kvs)/\y=kV k/\r=eu kvs k)\/∃kvs k b,Rd H a (.dT kvs)/\y=.ref b/\H b=some (.tup (k.map kV))/\r=eu kvs k
def jW(H:Hp)(a:Addr)(y v:V)(H':Hp):Prop:=(∃kvs k,H a=some (.dK kvs)/\y=kV k/\kvs.length<sizeLine/\H'=upd H a (.dK (eQ kvs k v))) \/∃kvs k b,H a=some (.dT kvs)/\y=.ref b/\H b=some (.tup (k.map kV))/\kvs.length<sizeLine/\H'=upd H a (.dT (eQ kvs k v))
def jW.k{H:Hp}{a:Addr}{kvs:List (bH×V)}{k:bH}{v:V}(e:H a=some (.dK kvs))(hl:kvs.length<sizeLine):jW H a (kV k) v (upd H a (.dK (eQ kvs k v))):=.inl ⟨kvs,k,e,rfl,hl,rfl⟩
variable{u:Value}{A:W_}{E:Value->h_->Prop}
section
variable{y v:V}{r:Value}{o:Option V}
def Inv.big(I:Inv X pz σ H s):Qar<s.heap.objs.size:=by have h:K_<s.heap.objs.size:=(I.mod.glob.keeps I.bk).lt;exact Nat.lt_trans (by decide) h
def Q6{Q:Value->h_->Prop}(hu:A.units+1<Qag)(I:Inv X pz σ H s)(g:i9 H a y (some v))(ry:aS y u)(h:∀w' s',Inv X pz σ H s'->aS v w'->Q w' s'):w_ (B_ X.prog X.w) A (Qct (.ref a) u) Q E s:=by
 rcases g with⟨kvs,k,e,ey,l⟩|⟨kvs,k,b,e,ey,eb,l⟩
 .subst ey;obtain⟨z,hd,vs,U,dd⟩:=oh I.hok e;obtain⟨w',hw,rw'⟩:=dN.some_of (v:=v) (o:=QcY vs k) (by rw[l];exact U.val k);exact wpAny_getItem_of (pQ ry) dd.mapOf hw (h w' _ (I.tok _) rw')
 .subst ey;cases(show u=Value.ref b from ry);obtain⟨z,hd,xs,U,dd⟩:=pN I.hok e;obtain⟨w',hw,rw'⟩:=dN.some_of (v:=v) (o:=(QdY xs k).map (·.2)) (by rw[l];exact U.val k);obtain⟨p,hp,Y⟩:=Qcz.mp hw;refine wpAny_getItem_heap (Qa9 hu) (qf I.hok eb) dd hp ?_;rw[Y];exact h w' _ (I.tok _) rw'
def EN{Q:Value->h_->Prop}(hu:A.units+1<Qag)(I:Inv X pz σ H s)(g:i9 H a y o)(ry:aS y u)(h:∀s',Inv X pz σ H s'->Q (.bool o.isSome) s'):w_ (B_ X.prog X.w) A (Y6 .In u (.ref a)) Q E s:=by
 rcases g with⟨kvs,k,e,ey,l⟩|⟨kvs,k,b,e,ey,eb,l⟩
 .subst ey;obtain⟨z,hd,vs,U,dd⟩:=oh I.hok e;refine wpAny_in_of (pQ ry) hd dd.mapOf ?_;rw[<-(U.val k).isSome_eq,<-l];exact h _ (I.tok _)
 .subst ey;cases(show u=Value.ref b from ry);obtain⟨z,hd,xs,U,dd⟩:=pN I.hok e;refine wpAny_in_heap (Qa9 hu) (qf I.hok eb) hd dd ?_;have q:=(U.val k).isSome_eq;rw[Qcc]at q;rw[<-q,<-l];exact h _ (I.tok _)
def OJ{Q:Value->h_->Prop}(hu:A.units+1<Qag)(I:Inv X pz σ H s)(g:i9 H a y o)(ry:aS y u)(h:∀s',Inv X pz σ H s'->Q (.bool (! o.isSome)) s'):w_ (B_ X.prog X.w) A (Y6 .NotIn u (.ref a)) Q E s:=by
 rcases g with⟨kvs,k,e,ey,l⟩|⟨kvs,k,b,e,ey,eb,l⟩
 .subst ey;obtain⟨z,hd,vs,U,dd⟩:=oh I.hok e;refine wpAny_notIn_of (pQ ry) hd dd.mapOf ?_;rw[<-(U.val k).isSome_eq,<-l];exact h _ (I.tok _)
 .subst ey;cases(show u=Value.ref b from ry);obtain⟨z,hd,xs,U,dd⟩:=pN I.hok e;refine wpAny_notIn_heap (Qa9 hu) (qf I.hok eb) hd dd ?_;have q:=(U.val k).isSome_eq;rw[Qcc]at q;rw[<-q,<-l];exact h _ (I.tok _)
def GQ{h':Heap}{t':Nat}{ob:HO}(I:Inv X pz σ H s)(mu:tf (H a))(hs:Qbg a s.heap h')(he:∃q,h'.get? a=some q)(new:du X.prog X.w (upd H a ob) h' a ob):Inv X pz σ (upd H a ob) { s with heap:=h',toks:=t' }:=I.write (x:=a) (e:=a) mu (.inl rfl) (fun b q hb z=>(hs.2 b hb).trans z) he new
def Mm{P:C_}{w:N_}{H':Hp}{h':Heap}{kvs:List (bH×V)}{vs:List (bH×Value)}(z:kvs.length<=sizeLine)(hd:(a==Qar)=false)(U:KV kvs vs)(dd:h'.DictOf (ic P w) a vs):du P w H' h' a (.dK kvs):=⟨z,hd,vs,U,dd⟩
def Q7{H':Hp}{Q:Unit->h_->Prop}(hu:A.units+1<Qag)(I:Inv X pz σ H s)(g:jW H a y v H')(ry:aS y u)(rv:aS v r)(h:∀s',Inv X pz σ H' s'->Q () s'):w_ (B_ X.prog X.w) A (Qdq (.ref a) u r) Q E s:=by
 rcases g with⟨kvs,k,e,ey,l,eH⟩|⟨kvs,k,b,e,ey,eb,l,eH⟩
 .subst ey eH;obtain⟨z,hd,vs,U,dd⟩:=LO I.hok e;have hz:vs.length<=sizeLine:=by rw[<-U.length];exact z
  have hl:(eQ kvs k v).length<=sizeLine:=by have:=JY kvs k v;omega
  refine wpAny_setItem_pairs (hsz:=hz) (pQ ry) dd fun h' Y hs=>h _ ?_;have he:∃q,h'.get? a=some q:=let⟨q,_,_,hq,_⟩:=Y;⟨q,hq⟩;exact GQ I (by rw[e];exact True.intro) hs he (Mm hl hd (U.put k rv) Y)
 .subst ey eH;cases(show u=Value.ref b from ry);obtain⟨z,hd,xs,U,dd⟩:=LP I.hok e;have hz:xs.length<=sizeLine:=by rw[<-Paired.length U];exact z
  have hl:(eQ kvs k v).length<=sizeLine:=by have:=JY kvs k v;omega
  refine wpAny_setItem_heap (hsz:=hz) (Qa9 hu) (qf I.hok eb) dd fun h' Y hs=>h _ ?_;obtain⟨q,es,ep,hq,h2,h3,h4,_,h5⟩:=Y;refine GQ I (by rw[e];exact True.intro) hs ⟨q,hq⟩ ⟨hl,hd,_,(U.put k eb rv).keeps fun c ys ec=>?_,q,es,ep,hq,h2,h3,h4,h5⟩;rw[bX (Lv ec e (fun z=>nomatch z))];exact ec
end
section
variable{kvs:List (bH×V)}{k:bH}
def LM{Q:Value->h_->Prop}(I:Inv X pz σ H s)(e:Rd H a (.dK kvs))(h:∀t s',Inv X pz σ H s'->Q (.int kvs.length t) s'):w_ (B_ X.prog X.w) A (call (.builtin "len") [.ref a]) Q E s:=by obtain⟨z,hd,vs,U,dd⟩:=oh I.hok e;refine call_len_dict hd dd (by rw[<-U.length];rw[J_]at z;omega) ?_;rw[<-U.length];exact h _ _ (I.tok _)
end
def To{X:Cx}{pz:List (Addr×Obj)}{σ:St}{H:Hp}{s:h_}{a:Addr}{y:V}{o:Option V}(I:Inv X pz σ H s)(g:i9 H a y o):s.TypeIs (.ref a) "dict" := by
 rcases g with⟨kvs,k,e,_,_⟩|⟨kvs,k,b,e,_,_,_⟩
 .obtain⟨_,_,vs,_,dd⟩:=oh I.hok e;exact dd.typeIs
 .obtain⟨_,_,xs,_,dd⟩:=pN I.hok e;exact dd.typeIs
def P5{P:C_}{w:N_}{H:Hp}(h:Heap)(hb:Qar<h.objs.size):du P w H (h.push { cls:=.type "dict",data:=.dict #[] }) h.objs.size (.dK []):=⟨Zf _,beq_eq_false_iff_ne.mpr (ZP (G_ hb)),[],.nil,Heap.DictOf.new h⟩
def Nu:TE:=fun _ H Q=>∀p,H p=none->Q (.ref p) (upd H p (.dK []))
def QR:PE X (.Dict [] [] pos) Nu:=fun pz s σ H Q I h=>wpAny_Dict_empty ⟨.ref s.heap.objs.size,_,I.laid (a:=s.heap.objs.size) (o:=.dK []) (t':=s.toks) (fun _ _ q=>c_ _ q) (y_ _) (P5 s.heap I.big),rfl,h _ (I.hok.fresh (y_ _))⟩
end L2
namespace Att
open PySem PySem.W PySem.Calls PyProof.Rows
def T6{P:Params}{h:Heap}:∀(ns:List Int)(vs:List Value),WellAll P h vs (ns.map WData.int)->Qec vs ns:=by
 intro ns
 induction ns with
|nil=>intro vs w;rw[QeL]at w;cases w;exact .nil
|cons n ns ih=>intro vs w;rw[U_]at w;cases w with
 |cons a b=>cases a;exact .cons _ _ (ih _ b)
def Si{l:OpenLaw}{n:Nat}(hn:l.most=some n){P:Params}{h:Heap}{args:List WData}{U:List Value}(z:l.row.toRowW.claim.pre args=true)(Z:WellAll P h U args):∃a vs ns,U=[Value.ref a]/\args=[WData.list (ns.map WData.int)]/\h.get? a=some { cls:=.type "list",data:=.seq vs.toArray }/\Qec vs ns/\ns.length<=n:=by
 have Y:WShape.hasAll [] args [.list .int]=true:=(pre_splitW z).1;have hc:l.pre.holds [] { args:=args }=true:=(pre_splitW z).2;obtain⟨d,r,rfl,h1,h2⟩:=hasAllW_cons Y;obtain rfl:=hasAllW_nil h2;obtain⟨xs,rfl,h3⟩:=hasW_list h1;obtain⟨ns,rfl⟩:=items_int h3;have hlen:ns.length<=n:=by
  unfold OpenLaw.pre at hc;have h4:(WTm.not (.lt (.lit (.int (n:Int))) (.len (.arg 0)))).holds [] { args:=[.list (ns.map .int)] }=true:=by have h4:=(holds_andW hc).1;rw[hn]at h4;exact h4
  have h5:=condW_of h4 (w_not (w_lt w_lit (w_len_list (w_arg rfl))));rw[q_]at h5;refine Nat.le_of_not_lt fun q=>?_;have q':(n:Int)<((ns.length:Nat):Int):=by omega
  first
   |(rw[decide_eq_true q']at h5;exact absurd h5 (by decide))
   |(simp at h5;omega)
 cases Z with
|cons w1 w2=>cases w2;cases w1 with
 |list ho hall=>exact⟨_,_,ns,rfl,rfl,ho,T6 ns _ hall,hlen⟩
def RD(l:OpenLaw)(args:List WData):l.row.toRowW.claim.post args (.bool true) args=true:=
 postW_of (r:=l.row.toRowW) (X:=(true==true))
  (show QeO [] (.bool true) .bool=true by first|rfl|decide|simp[QeO,WShape.arms,WShape.armsAll])
  (show(WTm.eq .res (.lit (.bool true))).value [] { args:=args,res:=some (.bool true),after:=args }=some (.bool (true==true))from w_eq_bool (w_res rfl) w_lit) rfl
def attach_call{l:OpenLaw}{n:Nat}{q:C_}{z:List Str}{XP:(Str->Option Value)->Heap->Prop}{YP:N_->Heap->Prop}{d:DefRec}(hn:l.most=some n)(Id:d.params.defaults=[])(call:∀(w:N_)(s₀ s₁:h_)(mg mb:Str->Option Value)(fa:Addr)(o:Obj)(pm cd doc:Value)(a:Addr)(vs:List Value)(ns:List Int),Ground q z [] XP w s₀ mg mb s₁.heap->YP w s₁.heap ->s₁.heap.get? fa=some o->o.data=.func (docDef d.name d.params d.body d.scope pm cd doc)->s₁.heap.CodeRec cd d.name->mg d.name=some (.ref fa) ->s₁.heap.get? a=some { cls:=.type "list",data:=.seq vs.toArray }->Qec vs ns->ns.length<=n->s₁.gens = #[] ->QbA (B_ l.prog w) QcA (.call (.ref fa) ⟨[.ref a],[]⟩) (fun r s'=>r=.ok (.ret (.bool true))/\OldK s₁.heap s'.heap/\s'.os=s₁.os/\Qbf s'.gens) s₁):WalkO q z XP YP l.row.toRowW d [] (fun f vs=>Qen f vs):=by intro w s₀ s₁ mg mb G Y fa o pm cd doc dV kV ho hd BT hD hmg hg args KK as ld IO LT Cl LE;obtain rfl:dV=.none:=Dflts.none hD Id;obtain rfl:kV=.none:=Dflts.noKw hD;obtain⟨a,vs,ns,rfl,rfl,Z,U,hlen⟩:=Si hn ld Cl;refine enter_call (Qan (call w s₀ s₁ mg mb fa o pm cd doc a vs ns G Y ho (fd_plain hd) BT hmg Z U hlen hg) fun r s' hq=>?_);obtain⟨rfl,h2,h3,h4⟩:=hq;exact⟨.inl ⟨.bool true,.bool true,[],rfl,fun _=>rfl,.bool true,RD l _,fun _=>⟨List.Pairwise.nil,fun _ hm=>(nomatch hm)⟩⟩,h2,h3,h4⟩
end Att
namespace L2
open PySem PySem.Spec PyProof.Rows
def IX:∀{vs:List Value}{ns:List Int},Qec vs ns->aN (ns.map V.int) vs
|_,_,.nil=>.nil
|_,_,.cons n t h=>.cons ⟨t,rfl⟩ (IX h)
def nM(H:Hp):Prop:=∀b,H b=none\/∃o xs,H b=some (.frz o (.lst xs))
def Q0{P:C_}{w:N_}{K:W.Frag}{mg mb:Str->Option Value}{CX:ja}{k:Nat}{fa a:Addr}{fd:Zt}{x:Str}{sp:Sp}{s₁:h_}{vs:List Value}{ns:List Int}(KX:K.In s₁.heap)(Cl:s₁.heap.Ns K_ mg)(hb:s₁.heap.Ns Qed mb)(Tm:∀x:Str,x≠"__name__"->mb x=QaS x)(Id:s₁.heap.NoLimit)(hg:s₁.gens = #[])(ha:s₁.heap.get? a=some { cls:=.type "list",data:=.seq vs.toArray })(hi:Qec vs ns)(hl:ns.length<=sizeLine)(hr:Room k QcA)(F:∀base:Heap,K.In base->base.Ns K_ mg->FnOk P w K mg base CX k fa fd [x] sp)(ld:∀(s:h_)(u:Value),Qdu s fd ⟨[u],[]⟩ [(x,u)])(LT:∀H:Hp,nM H->cy K H a (ns.map V.int)->sp [.ref a] H (fun v _=>v=.bl true) fun _ _ _=>False)(ST:∀H e s',CX [] H s₁ (fun _ _ _=>False) e s'->False):QbA (B_ P w) QcA (.call (.ref fa) ⟨[.ref a],[]⟩) (fun r s'=>r=.ok (.ret (.bool true))/\OldK s₁.heap s'.heap/\s'.os=s₁.os/\Qbf s'.gens) s₁:=by
 have rv:=IX hi;have IO:=hi.length;have Z:∀H:Hp,nM H->cy K H a (ns.map V.int)->dH P w H s₁.heap->(∀b,H b≠none->b=a)->(H a≠none->K.lookup a=none) ->QbA (B_ P w) QcA (.call (.ref fa) ⟨[.ref a],[]⟩) (fun r s'=>r=.ok (.ret (.bool true))/\OldK s₁.heap s'.heap/\s'.os=s₁.os/\Qbf s'.gens) s₁:=by
  intro H hO hS hok hA hK;have U:∀{b:Addr}{o:Obj},s₁.heap.get? b=some o->H b=none->(gK s₁.heap H).get? b=some o:=fun e n=>QX e n;have LE:∀{b:Addr}{o:Obj}{es:Array QdN}{ep:Nat},s₁.heap.get? b=some o->o.data=.dict es ep->H b=none:=fun{b o es ep} e d=>by cases q:H b with
  |none=>rfl
  |some u=>have e':b=a:=hA b (by rw[q];simp);subst e';rw[ha]at e;cases e;have d':Data.seq vs.toArray _=Data.dict es ep:=d;cases d'
  have Y:∀{b:Addr}{m:Str->Option Value},s₁.heap.Ns b m->(gK s₁.heap H).Ns b m:=fun{b m} ⟨o,es,ep,e,d,r⟩=>⟨o,es,ep,U e (LE e d),d,r⟩
  have BT:K.In (gK s₁.heap H):=fun b o e=>U (KX b o e) (by cases q:H b with
  |none=>rfl
  |some u=>have e':b=a:=hA b (by rw[q];simp);subst e';rw[hK (by rw[q];simp)]at e;cases e)
  have hM:Mod K mg (gK s₁.heap H):=⟨BT,Y Cl,⟨mb,Y hb,Tm⟩,let⟨mc,h1,h2⟩:=Id;⟨mc,Y h1,h2⟩⟩
  have e0:Env0 P w K mg (gK s₁.heap H) QcA [] s₁ H:=⟨rfl,hM,fun b o e=>Os e,Qbj (Rc _ _),trivial,fun b hb=>absurd (show b∈([]:List Addr)from hb) (by simp),hok,.of_eq hg⟩
  refine Qan ((F _ BT (Y Cl)).run QcA [] s₁ H ⟨[.ref a],[]⟩ [.ref a] [.ref a] _ _ hr e0 (ld s₁ (.ref a)) (.cons rfl .nil) (LT H hO hS)) fun r s' h=>?_;cases r with
 |error e=>exact(ST H e s' h).elim
 |ok fl=>cases fl with
  |next=>exact Y2 h
  |brk=>exact Y2 h
  |cont=>exact Y2 h
  |ret u=>obtain⟨v,H',os,bare,un,KK,r',q⟩:=h;have q':v=.bl true:=q;subst q';obtain rfl:u=Value.bool true:=r';refine⟨rfl,OldK.of_keep fun b o e=>?_,os,bare⟩;cases q:H b with
   |none=>exact un.keep b o e q (by intro z;exact absurd (show b∈([]:List Addr)from z) (by simp)) (by simp)
   |some u=>
     rcases hO b with z|⟨ob,xs,z⟩
     .rw[q]at z;cases z
     .have z2:=un.frzs b ob _ z;obtain⟨e1,_⟩:=hok b _ z;obtain⟨e2,_⟩:=KK b _ z2;rw[e]at e1;cases e1;exact e2
 cases hk:K.lookup a with
|some o=>have e:=KX a o hk;rw[ha]at e;cases e;refine Z (fun _=>none) (fun _=>.inl rfl) (.inr ⟨_,vs.toArray,_,hk,rfl,rfl,rfl,by rw[u_,IO];exact hl,by simpa using rv⟩) (fun b u z=>by have z':(none:Option HO)=some u:=z;cases z') (fun b z=>absurd rfl z) fun z=>absurd rfl z
|none=>
  refine Z (fun b=>if b=a then some (.frz { cls:=.type "list",data:=.seq vs.toArray } (.lst (ns.map V.int)))else none) (fun b=>?_) (.inl (.inr ⟨{ cls:=.type "list",data:=.seq vs.toArray },if_pos rfl⟩)) (fun b u z=>?_) (fun b z=>?_) fun _=>hk
  .by_cases hb:b=a
   .exact .inr ⟨_,_,if_pos hb⟩
   .exact .inl (if_neg hb)
  .by_cases hb:b=a
   .have z':=(if_pos hb).symm.trans z;cases z';subst hb;exact⟨ha,by rw[q_];exact hl,vs,_,rv,ha⟩
   .have z':=(if_neg hb).symm.trans z;cases z'
  .by_cases hb:b=a
   .exact hb
   .exact absurd (if_neg hb) z
abbrev bR{K:W.Frag}{h:Heap}(_:K.In h):W.Frag:=K
def kH{l:W.OpenLaw}{n k:Nat}{q:C_}{U:List Str}{XP:(Str->Option Value)->Heap->Prop}{YP:N_->Heap->Prop}{d:DefRec}{K:Params->W.Frag}{CX:N_->ja}{sp:N_->Sp}{x:Str}(hn:l.most=some n)(BT:n<=sizeLine)(Id:d.params.defaults=[])(hr:Room k QcA)(hY:∀(w:N_)(h:Heap),YP w h->(K w.params).In h)(F:∀(w:N_)(mg:Str->Option Value)(fa:Addr)(h:Heap),(K w.params).In h->h.Ns K_ mg->mg d.name=some (.ref fa) ->∃fd:Zt,(∀(s:h_)(u:Value),Qdu s fd ⟨[u],[]⟩ [(x,u)]) /\∀base:Heap,(K w.params).In base->base.Ns K_ mg->FnOk l.prog w (K w.params) mg base (CX w) k fa fd [x] (sp w))(Cl:∀(w:N_)(H:Hp)(a:Addr)(ns:List Int),ns.length<=n->nM H->cy (K w.params) H a (ns.map V.int)->sp w [.ref a] H (fun v _=>v=.bl true) fun _ _ _=>False)(ld:∀(w:N_)(H:Hp)(s:h_)(e:Value)(s':h_),CX w [] H s (fun _ _ _=>False) e s'->False):W.WalkO q U XP YP l.row.toRowW d [] (fun f vs=>Qen f vs):=by refine Att.attach_call hn Id fun w s₀ s₁ mg mb fa o pm cd doc a vs ns G Y ho hd IO hmg Z z hlen hg=>?_;have KX:=hY w _ Y;obtain⟨fd,hb,hF⟩:=F w mg fa _ KX G.T.g hmg;exact Q0 KX G.T.g G.T.b G.T.builtins G.T.nolimit hg Z z (Y8 hlen BT) hr hF hb (fun H hO hS=>Cl w H a ns hlen hO hS) fun H e s'=>ld w H s₁ e s'
def aP(s:Stmt):Arguments:=match s with
|.FunctionDef _ a _ _ _ _ _ _ _ _=>a
|_=>{ posonlyargs:=[],args:=[],vararg:=none,kwonlyargs:=[],kw_defaults:=[],kwarg:=none,defaults:=[] }
def aO(s:Stmt):List Stmt:=match s with
|.FunctionDef _ _ b _ _ _ _ _ _ _=>b
|_=>[]
def aE(s:Stmt):Qa1:=match s with
|.FunctionDef _ _ _ _ _ _ sc _ _ _=>sc
|_=>{ kind:=.function,names:=[],isGenerator:=false,isCoroutine:=false }
abbrev cH:ja:=fun _ _ _ _ _ _=>False
abbrev E0:XK:=fun _ _ _=>False
def uC{X:Cx}:qc cH X E0:=fun _ _ _ _ _ _ _ h=>h.elim
structure Fun(K:W.Frag)(x qual:Str)(st:Stmt)(f:Addr)(fd:Zt):Prop where
 ex:∃(oc:Value)(od:Option Addr)(kV doc pm:Value)(an:Option Addr)(cdv ct:Value)(osl:Array (Option Value)),fd=W.fnOf x qual (aP st) (aO st) (aE st) .none kV doc pm an cdv ct/\K.lookup f=some ⟨oc,od,.func fd,osl⟩/\W.codeIn K cdv qual=true
 kp:W.keepIn K (.ref f)=true
section
variable{P:C_}{w:N_}{K:W.Frag}{mg:Str->Option Value}{base:Heap}
def Fun.ok{x qual:Str}{st:Stmt}{f:Addr}{fd:Zt}{N ps:List Str}{k:Nat}{sp:Sp}(F:Fun K x qual st f fd)(S:FnScope N ps (aE st))(len:∀vs H Q E,sp vs H Q E->vs.length=ps.length)(z:∀(cdv:Value)(A:W_)(outer:List Env)(s:h_)(H:Hp)(vs:List V)(Q:VK)(E:XK),Room k (A.deeper (QaX qual (aE st) s.heap.objs.size f cdv))->sp vs H Q E ->∃t,dq (bM cH P w K mg base N qual (aE st) f cdv A outer s H E).nox (aO st) t/\t { nx:=fun _ H'=>Q .non H',rt:=Q } (cm N vs) H):FnOk P w K mg base cH (k+1) f fd ps sp:=by obtain⟨oc,od,kV,doc,pm,an,cdv,ct,osl,rfl,lk,U⟩:=F.ex;refine E7 lk U S len fun A outer s H vs Q E hr Y=>?_;obtain⟨t,h,q⟩:=z cdv A outer s H vs Q E hr Y;exact⟨t,h.nox,q⟩
def Fun.binds{x qual:Str}{st:Stmt}{f:Addr}{fd:Zt}{ps:List Str}(F:Fun K x qual st f fd)(h:∀(kV doc pm:Value)(an:Option Addr)(cdv ct:Value)(us:List Value),us.length=ps.length->Qbk (W.fnOf x qual (aP st) (aO st) (aE st) .none kV doc pm an cdv ct) ⟨us,[]⟩=pure (ps.zip us)):hU K fd ps []:=by obtain⟨oc,od,kV,doc,pm,an,cdv,ct,osl,rfl,lk,z⟩:=F.ex;exact .all (h kV doc pm an cdv ct)
def cv{x qual:Str}{st:Stmt}{f:Addr}{oc:Value}{od an:Option Addr}{osl:Array (Option Value)}{kV doc pm cdv ct:Value}(l:K.lookup f=some ⟨oc,od,.func (W.fnOf x qual (aP st) (aO st) (aE st) .none kV doc pm an cdv ct),osl⟩)(c:W.codeIn K cdv qual=true)(k:W.keepIn K (.ref f)=true):Fun K x qual st f (W.fnOf x qual (aP st) (aO st) (aE st) .none kV doc pm an cdv ct):=⟨⟨oc,od,kV,doc,pm,an,cdv,ct,osl,rfl,l,c⟩,k⟩
end
def gT{A:W_}{k:Nat}(hr:Room k A):A.units+1<Qag:=Nat.lt_of_le_of_lt (Nat.add_le_add_left (by decide:1<=64) _) hr.units
section
variable{X:Cx}
def Rp:gp X (.builtin "len") (fun xs H Q=>∃a kvs,xs=[V.ref a]/\Rd H a (.dK kvs)/\Q (.int kvs.length) H):=by intro pz s σ H xs us Q I r h;obtain⟨a,kvs,rfl,ha,q⟩:=h;obtain⟨u,rfl,ru⟩:=cY r;cases ru;exact LM I ha fun t s' I'=>⟨.int kvs.length,H,I',⟨t,rfl⟩,q⟩
end
end L2
end
namespace DL
open PySem
section
open PySem.SeqAt
open PySem.AutoSeq1 (wpAny_loadPart')
open PySem.MeetsSeq PySem.MeetsSeq2 PySem.MeetsSeq3
def Ay(items:Array Value)(x:Value):Nat->Option Fin×Unit->Sem (ForInStep (Option Fin×Unit)):=fun i _=>match items[i]? with
|some y=>do
  let c <-eqBool y x
  if c=true then do
    let r <-retInt i
    pure (ForInStep.done (some r,()))
   else pure (ForInStep.yield (none,()))
|_=>pure (ForInStep.yield (none,()))
def Oe{prog:C_}{w:N_}{A:W_}{E:Value->h_->Prop}{s:h_}{items:Array Value}{x:Value}{e:Value->Bool}{j:Nat}(hj:j<items.size)(hit:e items[j]=true)(he:∀y,y∈items->EqAt A s y x (e y)){Q:Option Fin×Unit->h_->Prop}(hq:Q (some (.done (.ret (.int j s.toks))),()) { s with toks:=s.toks+1 }):∀(k i:Nat),j=i+k->(∀m (hm:m<items.size),i<=m->m<j->e items[m]=false)->w_ (B_ prog w) A (forIn (QdZ i (items.size-i)) (none,()) (Ay items x)) Q E s:=by
 intro k
 induction k with
|zero=>
  intro i hk _;obtain rfl:j=i:=by omega
  obtain⟨r,hr⟩:∃r,items.size-j=r+1:=⟨items.size-j-1,by omega⟩
  rw[hr,Qco,Qal];refine a_ ?_;unfold Ay;rw[show items[j]? = some items[j]by simp[hj]];refine a_ (he _ (Qdy hj) prog w _ _ ?_);rw[hit,if_pos rfl];refine a_ (m:=retInt j) ?_;unfold retInt
  wp_walk
  exact hq
|succ k ih=>
  intro i hk z;have hi:i<items.size:=by omega
  obtain⟨r,hr⟩:∃r,items.size-i=r+1:=⟨items.size-i-1,by omega⟩
  rw[hr,Qco,Qal];refine a_ ?_;unfold Ay;rw[show items[i]? = some items[i]by simp[hi]];refine a_ (he _ (Qdy hi) prog w _ _ ?_);rw[z i hi (y_ _) (by omega),if_neg k_];refine n_ ?_;have:=ih (i+1) (by omega) (fun m hm h1 h2=>z m hm (by omega) h2);rw[show items.size-(i+1)=r by omega]at this;exact this
def TL(l:Addr)(items:Array Value)(n:Nat)(dd:Option Addr)(sl:Array (Option Value))(x:Value)(e:Value->Bool)(j:Nat)(hj:j<items.size)(hit:e items[j]=true)(z:∀m (hm:m<items.size),m<j->e items[m]=false) :
  Meets (QaT.«tuple.index» ⟨[.ref l,x],[]⟩)
   (fun A R s=>s.heap.get? l=some { cls:=.type "tuple",dict:=dd,data:=.seq items n,slots:=sl }/\(∀y,y∈items->EqAt A.in1 s y x (e y))/\R (.ok (.ret (.int j s.toks))) { s with toks:=s.toks+1 }):=by
 intro prog w A R s h;obtain⟨hp,g,d,tk,os⟩:=s;obtain⟨hl,he,h⟩:=h;unfold QaT.«tuple.index»;simp only[QcP];generalize hF : @forIn Sem (List Nat) Nat _ (Option Fin×Unit)=F
 wp_walk using ZD hl
 subst hF;rw[show([:min items.size items.size]:Std.Legacy.Range).size=items.size-0 by simp[Std.Legacy.Range.size]];refine Oe hj hit he ?_ j 0 (by omega) (fun m hm _ h2=>z m hm h2);exact n_ h
end
end DL
namespace DL
open PySem PyProof.Rows
end DL
namespace DL
open PySem PyProof.Rows PySem.W
section
variable{n:Nat}(hn:0<n)
include hn
end
end DL
namespace DL
open PySem PyProof.Rows PySem.W PySem.Calls
end DL
namespace DL
open PySem PySem.Spec PyProof.Rows L2 PySem.W PySem.Calls
structure Lft(fr:List Addr)(a:Addr)(oe:Obj)(vs:Array Value)(T:Option Addr)(v:Value)(h h':Heap):Prop where
 keep:∀b o,b∉fr->b≠a->T≠some b->h.get? b=some o->h'.get? b=some o
 slot:∀b o,h.get? b=some o->(∀vs:Array Value,o.data≠Data.fields vs)->∃sl,h'.get? b=some { cls:=o.cls,dict:=o.dict,data:=o.data,slots:=sl }
 obj:∃tb ot ts,(h.get? tb=none\/T=some tb)/\tb≠a/\h'.get? a=some { cls:=oe.cls,dict:=oe.dict,data:=.fields (vs.setIfInBounds 1 (.ref tb)),slots:=oe.slots }/\h'.get? tb=some ot/\ot.data=.fields ts/\ts[3]? = some v
def tH(a:Addr)(h:Heap):Prop:=∃oe vs tb,h.get? a=some oe/\oe.data=Data.fields vs/\vs[1]? = some (Value.ref tb)
abbrev nE(fl:Option Addr):Value:=fl.elim Value.none fun f=>Qbh f
variable{M:Qee}{E:Value->h_->Prop}{s:h_}{a:Addr}
section
variable{A:W_}{B:Heap}{env:Env}{outer:List Env}{L:Addr}{oe:Obj}{vs:Array Value}{Q:Unit->h_->Prop}
def Hy{LE:Value}{US:Bool}{fl:Option Addr}(hf:A.frames=some (env::outer))(ff:s.heap.FunFrames B (env::outer))(hL:env.frame=some L)(e0:s.heap.get? a=some oe)(hd:oe.data=.fields vs)(hs:1<vs.size)(q:∀h',Lft (dJ (env::outer)) a oe vs none (nE fl) s.heap h'->Q () { heap:=h',gens:=s.gens,drawn:=s.drawn,toks:=s.toks,os:=s.os }) :
  w_ M A (do
   let f <-PySem.frameOf env;let pl <-entryPlaceOf L US;let b <-Qc3 LE f Value.none (Qbh ↑L) Value.none pl
   setField (Value.ref a) 1 b) (fun _ s'=>tH a s'.heap/\w_ M A (QaI (Value.ref a) fl) Q E s') E s:=by
 have Tm:a∉dJ (env::outer):=fun z=>by obtain⟨_,o,e1,nf⟩:=ff.mem z;rw[e0]at e1;cases e1;exact nf vs hd
 refine a_ (wpAny_frameOf_fun hf ff hL fun h2 so=>?_);refine a_ (wpAny_entryPlaceOf fun pl Ty=>?_);obtain⟨UU,BT,Cl⟩:=so;have e2:h2.get? a=some oe:=(BT a Tm).trans e0;have key:∀fs:List Value,fs.length<=100->fs[3]? = some (Qbh ↑L)->w_ M A ((do
   let b <-newFields "traceback" fs
   setField (Value.ref a) 1 b)) (fun _ s'=>tH a s'.heap/\w_ M A (QaI (Value.ref a) fl) Q E s') E { heap:=h2,gens:=s.gens,drawn:=s.drawn,toks:=s.toks,os:=s.os }:=fun fs hlen h3=>by
  refine a_ ?_;unfold newFields;have hsz:sizeOk (Data.fields fs.toArray):=by
   show fs.toArray.size<=_;have:fs.toArray.size<=100:=by simpa using hlen
   exact Y8 this (by decide)
  refine Zk (T := "traceback") (data:=.fields fs.toArray) (dict:=none) ?_ hsz;have ld:a<h2.objs.size:=z_ e2;have Y:h2.get? h2.objs.size=none:=by cases z:h2.get? h2.objs.size with
  |none=>rfl
  |some o=>exact absurd (z_ z) (Zw _)
  have hne:h2.objs.size≠a:=fun z=>by rw[z]at ld;exact absurd ld (Zw _)
  generalize LT:h2.objs.size=tb at *;have e3:(h2.push { cls:=.type "traceback",dict:=none,data:=.fields fs.toArray }).get? a=some oe:=c_ _ e2;have UT:(h2.push { cls:=.type "traceback",dict:=none,data:=.fields fs.toArray }).get? tb=some { cls:=.type "traceback",dict:=none,data:=.fields fs.toArray }:=by rw[<-LT];exact t_ _ rfl
  generalize IO:h2.push { cls:=.type "traceback",dict:=none,data:=.fields fs.toArray }=h3' at *;refine Qaz (a:=a) (o:=oe) (vs:=vs) (i:=1) e3 hd hs ?_;have mf:∀g,X_ g oe={ cls:=oe.cls,dict:=oe.dict,data:=.fields (g vs),slots:=oe.slots }:=fun g=>by obtain⟨c,d,da,sl⟩:=oe;have:da=.fields vs:=hd;subst this;rfl
  have e4:=Y_ (h:=h3') (X_ fun v=>v.setIfInBounds 1 (.ref tb)) e3 (by rw[mf];rfl);rw[mf]at e4;have KK:(h3'.update a (X_ fun v=>v.setIfInBounds 1 (.ref tb))).get? tb=some { cls:=.type "traceback",dict:=none,data:=.fields fs.toArray }:=by rw[Zo _ _ _ _ hne];exact UT
  have Id:∀b,b≠a->(h3'.update a (X_ fun v=>v.setIfInBounds 1 (.ref tb))).get? b=h3'.get? b:=fun b hb=>Zo _ _ _ _ hb;generalize h3'.update a (X_ fun v=>v.setIfInBounds 1 (.ref tb))=h4 at *;refine⟨⟨_,_,tb,e4,rfl,O_ hs⟩,?_⟩;unfold QaI;refine a_ (Y5 (o:={ cls:=oe.cls,dict:=oe.dict,data:=.fields (vs.setIfInBounds 1 (.ref tb)),slots:=oe.slots }) (x:=.ref tb) e4 rfl ?_ ?_)
  .rw[O_ hs]
  .rw[if_pos (by rfl)];refine Qaz (a:=tb) (vs:=fs.toArray) (i:=3) KK rfl ?_ ?_
   .have:=(i_.mp h3).1;simpa using this
   have e5:=Y_ (h:=h4) (X_ fun v=>v.setIfInBounds 3 (nE fl)) KK rfl;have U:∀b,b≠tb->(h4.update tb (X_ fun v=>v.setIfInBounds 3 (nE fl))).get? b=h4.get? b:=fun b hb=>Zo _ _ _ _ hb;refine q (h4.update tb (X_ fun v=>v.setIfInBounds 3 (nE fl))) ⟨fun b o nf ne _ e=>?_,fun b o e nf=>?_,tb,_,_,.inl ?_,hne,?_,e5,rfl,?_⟩
   .have hb2:h2.get? b=some o:=(BT b nf).trans e;have Z:b≠tb:=fun z=>by rw[z,Y]at hb2;cases hb2
    rw[U b Z,Id b ne,<-IO];exact c_ _ hb2
   .obtain⟨sl,e1⟩:=Cl b o e;have Z:b≠tb:=fun z=>by rw[z,Y]at e1;cases e1
    have ST:b≠a:=fun z=>by rw[z,e0]at e;cases e;exact nf vs hd
    refine⟨sl,?_⟩;rw[U b Z,Id b ST,<-IO];exact c_ _ e1
   .cases z:s.heap.get? tb with
   |none=>rfl
   |some o=>obtain⟨sl,e1⟩:=Cl tb o z;rw[Y]at e1;cases e1
   .rw[U a (ZP hne)];exact e4
   .show(fs.toArray.setIfInBounds 3 _)[3]? = _;rw[O_ (by have:=(i_.mp h3).1;simpa using this)]
 unfold Qc3;refine key _ ?_ rfl;rcases Ty with rfl|⟨x1,x2,x3,x4,x5,x6,_,rfl⟩ <;> simp
def vK{T fl:Option Addr}(hf:A.frames=some (env::outer))(ff:s.heap.FunFrames B (env::outer))(hL:env.frame=some L)(e0:s.heap.get? a=some oe)(hd:oe.data=.fields vs)(h1:(vs[1]? = some Value.none/\T=none)\/(∃T' oT ts,T=some T'/\vs[1]? = some (.ref T')/\T'≠a/\s.heap.get? T'=some oT/\oT.data=.fields ts/\ts[3]? = some Value.none)\/∃T' oT ts,T=some T'/\vs[1]? = some (.ref T')/\T'≠a/\s.heap.get? T'=some oT/\oT.data=.fields ts/\ts[3]? = some (Qbh ↑L))(q:∀h',Lft (dJ (env::outer)) a oe vs T (nE fl) s.heap h'->Q () { heap:=h',gens:=s.gens,drawn:=s.drawn,toks:=s.toks,os:=s.os }):w_ M A (Qbx (.ref a) env) (fun _ s'=>tH a s'.heap/\w_ M A (QaI (.ref a) fl) Q E s') E s:=by
 have hs:1<vs.size:=by rcases h1 with⟨z,_⟩|⟨_,_,_,_,z,_⟩|⟨_,_,_,_,z,_⟩ <;> exact(Zu.mp z).1
 unfold Qbx;simp only[hL];rcases h1 with⟨z,rfl⟩|⟨T',oT,ts,rfl,z,hTa,eT,hT,h3⟩|⟨T',oT,ts,rfl,z,hTa,eT,hT,h3⟩
 .refine a_ (Y5 e0 hd z ?_);rw[if_neg (by decide)];exact Hy hf ff hL e0 hd hs q
 .refine a_ (Y5 e0 hd z ?_);rw[if_pos (by rfl)];refine a_ (Y5 eT hT h3 ?_);rw[if_neg (by intro z;cases z)];have U:3<ts.size:=(Zu.mp h3).1;refine a_ (Qaz eT hT U ?_);have eo:∀b,b≠T'->(s.heap.update T' (X_ fun v=>v.setIfInBounds 3 Value.none)).get? b=s.heap.get? b:=fun b hb=>Zo _ _ _ _ hb;refine Hy (s:={ heap:=s.heap.update T' (X_ fun v=>v.setIfInBounds 3 Value.none),gens:=s.gens,drawn:=s.drawn,toks:=s.toks,os:=s.os }) hf (ff.of_keeps fun b o e nf=>?_) hL ((eo a (ZP hTa)).trans e0) hd hs fun h' l=>q h' ⟨fun b o nf ne Y e=>?_,fun b o e nf=>?_,?_⟩
  .have hb:b≠T':=fun z=>by rw[z,eT]at e;cases e;exact nf ts hT
   exact⟨o,(eo b hb).trans e,rfl⟩
  .have hb:b≠T':=fun z=>Y (by rw[z]);exact l.keep b o nf ne (by simp) ((eo b hb).trans e)
  .have hb:b≠T':=fun z=>by rw[z,eT]at e;cases e;exact nf ts hT
   exact l.slot b o ((eo b hb).trans e) nf
  .obtain⟨tb,ot,ts',t1,t2⟩:=l.obj;refine⟨tb,ot,ts',.inl ?_,t2⟩;have t1:=t1.resolve_right (by simp);by_cases hb:tb=T'
   .have mf:X_ (fun v=>v.setIfInBounds 3 Value.none) oT={ cls:=oT.cls,dict:=oT.dict,data:=.fields (ts.setIfInBounds 3 Value.none),slots:=oT.slots }:=by obtain⟨c,d,da,sl⟩:=oT;have:da=.fields ts:=hT;subst this;rfl
    have:=Y_ (h:=s.heap) (X_ fun v=>v.setIfInBounds 3 Value.none) eT (by rw[mf];rfl);rw[hb]at t1;exact absurd (t1.symm.trans this) (by simp)
   .exact(eo tb hb).symm.trans t1
 .refine a_ (Y5 e0 hd z ?_);rw[if_pos (by rfl)];refine a_ (Y5 eT hT h3 ?_);rw[if_pos (by simp)];refine n_ ⟨⟨oe,vs,T',e0,hd,z⟩,?_⟩;have U:3<ts.size:=(Zu.mp h3).1;have mf:∀g,X_ g oT={ cls:=oT.cls,dict:=oT.dict,data:=.fields (g ts),slots:=oT.slots }:=fun g=>by obtain⟨c,d,da,sl⟩:=oT;have:da=.fields ts:=hT;subst this;rfl
  unfold QaI;refine a_ (Y5 e0 hd z ?_);rw[if_pos (by rfl)];refine Qaz eT hT U ?_;have eo:∀b,b≠T'->(s.heap.update T' (X_ fun v=>v.setIfInBounds 3 (nE fl))).get? b=s.heap.get? b:=fun b hb=>Zo _ _ _ _ hb;have es:=Y_ (h:=s.heap) (X_ fun v=>v.setIfInBounds 3 (nE fl)) eT (by rw[mf];rfl);rw[mf]at es;refine q _ ⟨fun b o nf ne Y e=>(eo b fun z=>Y (by rw[z])).trans e,fun b o e nf=>?_,T',_,_,.inr rfl,hTa,?_,es,rfl,?_⟩
  .have hb:b≠T':=fun z=>by rw[z,eT]at e;cases e;exact nf ts hT
   exact⟨o.slots,(eo b hb).trans e⟩
  .rw[eo a (ZP hTa),e0];obtain⟨c,d,da,sl⟩:=oe;have:da=.fields vs:=hd;subst this;have:vs.setIfInBounds 1 (.ref T')=vs:=by
    apply Qdj;intro i;rw[Array.getElem?_setIfInBounds];split
    .rename_i h;subst h;exact z.symm
    .rfl
   rw[this]
  .show(ts.setIfInBounds 3 _)[3]? = _;rw[O_ U]
def BS{T:Option Addr}(hf:A.frames=some (env::outer))(ff:s.heap.FunFrames B (env::outer))(hL:env.frame=some L)(e0:s.heap.get? a=some oe)(hd:oe.data=.fields vs)(h1:(vs[1]? = some Value.none/\T=none)\/(∃T' oT ts,T=some T'/\vs[1]? = some (.ref T')/\T'≠a/\s.heap.get? T'=some oT/\oT.data=.fields ts/\ts[3]? = some Value.none)\/∃T' oT ts,T=some T'/\vs[1]? = some (.ref T')/\T'≠a/\s.heap.get? T'=some oT/\oT.data=.fields ts/\ts[3]? = some (Qbh ↑L))(q:∀h',Lft (dJ (env::outer)) a oe vs T Value.none s.heap h'->Q () { heap:=h',gens:=s.gens,drawn:=s.drawn,toks:=s.toks,os:=s.os }):w_ M A (leaving env (.ref a)) Q E s:=a_ (Y7 (vK (fl:=none) hf ff hL e0 hd h1 q) (fun _ _ z=>z.2) fun _ _ z=>z)
end
def KJ(h B:Heap)(a:Addr)(cls:Value)(od L:Option Addr):Prop:=∃oe vs,h.get? a=some oe/\oe.cls=cls/\(∀dx,od=some dx->oe.dict=some dx)/\oe.data=.fields vs /\(vs[1]? = some Value.none\/(∃T oT ts,vs[1]? = some (.ref T)/\B.get? T=none/\T≠a/\h.get? T=some oT/\oT.data=.fields ts/\ts[3]? = some Value.none) \/∃l T oT ts,L=some l/\vs[1]? = some (.ref T)/\B.get? T=none/\T≠a/\h.get? T=some oT/\oT.data=.fields ts/\ts[3]? = some (Qbh ↑l))
def m5(st:List Env):Option Addr:=st.head?.bind (·.frame)
structure Fly(P:C_)(w:N_)(st:List Env)(H:Hp)(s:h_)(H':Hp)(a:Addr)(cls:Value)(od:Option Addr)(s':h_):Prop where
 os:s'.os=s.os
 bare:Qbf s'.gens
 un:Un (dJ st) [] H H' s.heap s'.heap
 hok:dH P w H' s'.heap
 ex:∃B:Heap,B.StaysIn s'.heap/\B.get? a=none/\s'.heap.FunFrames B st/\KJ s'.heap B a cls od (m5 st) /\(∀b o,s.heap.get? b=some o->b∉dJ st->∃o',B.get? b=some o')/\∀b u,H' b=some u->∃o',B.get? b=some o'
section
variable{X:Cx}{pz:List (Addr×Obj)}{σ:L2.St}{H H':Hp}{s':h_}{cls:Value}{od:Option Addr}
def Fly.inv(F:Fly X.prog X.w X.stack H s H' a cls od s')(I:Inv X pz σ H s):Inv X pz σ H' s':=I.call' F.os F.un F.hok F.bare fun b z=>absurd z (by simp)
def Fly.leaves{Q:Unit->h_->Prop}(F:Fly X.prog X.w X.stack H s H' a cls od s')(I:Inv X pz σ H s)(Y:X.stack=X.env::X.outer)(Z:X.env.frame=some X.env.locals)(ld:X.ex=[])(q:∀s'',Fly X.prog X.w X.outer X.H₀ X.s₀ H' a cls od s''->Q () s''):w_ M X.A (leaving X.env (.ref a)) Q E s':=by
 have I':=F.inv I;obtain⟨B,hB,Cl,U,⟨oe,vs,r1,r2,r3,r4,r5⟩,hd,hH⟩:=F.ex;have hfs:dJ X.stack=X.env.locals::dJ X.outer:=by rw[Y];unfold dJ;rw[Z9,Z]
 have inB:∀b o,X.s₀.heap.get? b=some o->b∉dJ X.outer->∃o',B.get? b=some o':=fun b o e n=>by
  obtain⟨o1,e1⟩:=I.base.there b o e (by rw[ld];simp);refine hd b o1 e1 ?_;rw[hfs];intro z;rcases e_.mp z with z|z
  .have h1:=z_ e;have h2:=I.ok.above;rw[z]at h1;exact absurd h1 (Nat.not_lt.mpr h2)
  .exact n z
 rw[Y]at U;have fin:∀(T:Option Addr) h',(∀b,T=some b->B.get? b=none)->Lft (dJ (X.env::X.outer)) a oe vs T Value.none s'.heap h'->Q () { heap:=h',gens:=s'.gens,drawn:=s'.drawn,toks:=s'.toks,os:=s'.os }:=fun T h' hT l=>by
  have same:∀b o,(∃o',B.get? b=some o')->s'.heap.get? b=some o->h'.get? b=some o:=fun b o ⟨o',e⟩ h=>by refine l.keep b o (fun z=>?_) (fun z=>by rw[z,Cl]at e;cases e) (fun z=>by rw[hT b z]at e;cases e) h;rw[(U.mem z).1]at e;cases e
  have BT:=(show X.env.scope.kind≠ScopeKind.module/\(∃L o,X.env.frame=some L/\B.get? L=none/\s'.heap.get? L=some o/\∀(vs:Array Value),o.data≠Data.fields vs)/\s'.heap.FunFrames B X.outer by unfold QcQ at U;exact U).2.2;have ho:h'.FunFrames B X.outer:=BT.of_keeps fun b o e nf=>by obtain⟨sl,e1⟩:=l.slot b o e nf;exact⟨_,e1,rfl⟩
  obtain⟨tb,ot,ts,t1,t2,t3,t4,t5,t6⟩:=l.obj;have Id:B.get? tb=none:=by
   rcases t1 with t1|t1
   .cases z:B.get? tb with
   |none=>rfl
   |some o=>have:=hB tb o z;rw[t1]at this;cases this
   .exact hT tb t1
  have hs1:1<vs.size:=by rcases r5 with z|⟨_,_,_,z,_⟩|⟨_,_,_,_,_,z,_⟩ <;> exact(Zu.mp z).1
  refine q _ ⟨I'.os,F.bare,⟨fun b o e n f z=>?_,fun b o e n f z=>?_,fun b o e n z=>?_,fun b o e z=>?_,I'.base.tups,I'.base.frzs,I'.base.tbls⟩,fun b u e=>?_,B,fun b o e=>same b o ⟨o,e⟩ (hB b o e),Cl,ho,⟨_,_,t3,r2,r3,rfl,.inr (.inl ⟨tb,ot,ts,O_ hs1,Id,t2,t4,t5,t6⟩)⟩,inB,hH⟩
  .exact same b o (inB b o e f) (I'.base.keep b o e n f (by rw[ld];exact z))
  .obtain⟨sl,e1⟩:=I'.base.slot b o e n f (by rw[ld];exact z);obtain⟨_,o2,e2,nf⟩:=BT.mem f;rw[e1]at e2;cases e2;obtain⟨IO,e3⟩:=l.slot b _ e1 nf;exact⟨IO,e3⟩
  .exact I'.base.free b o e n (by rw[ld];exact z)
  .obtain⟨o1,e1⟩:=I'.base.there b o e (by rw[ld];exact z);by_cases f:b∈dJ X.outer
   .obtain⟨_,o2,e2,nf⟩:=BT.mem f;obtain⟨sl,e3⟩:=l.slot b _ e2 nf;exact⟨_,e3⟩
   .exact⟨o1,same b o1 (inB b o e f) e1⟩
  .refine(F.hok b u e).stay (fun c v hc e1=>same c v ?_ e1) (fun _ z=>z) fun _ _ z=>z;rcases hc with hc|hc
   .rw[hc];exact hH b u e
   .exact hH c _ hc
 rcases r5 with z|⟨T,oT,ts,z1,z2,z3,z4,z5,z6⟩|⟨l,T,oT,ts,zl,z1,z2,z3,z4,z5,z6⟩
 .exact BS (T:=none) (by rw[I.ok.frames,Y]) U Z r1 r4 (.inl ⟨z,rfl⟩) fun h' l=>fin none h' (fun b e=>nomatch e) l
 .exact BS (T:=some T) (by rw[I.ok.frames,Y]) U Z r1 r4 (.inr (.inl ⟨T,oT,ts,rfl,z1,z3,z4,z5,z6⟩)) fun h' l=>fin (some T) h' (fun b e=>by cases e;exact z2) l
 .have hl:l=X.env.locals:=by unfold m5 at zl;rw[Y]at zl;exact(E_ (Z.symm.trans (show X.env.frame=some l from zl))).symm
  subst hl;exact BS (T:=some T) (by rw[I.ok.frames,Y]) U Z r1 r4 (.inr (.inr ⟨T,oT,ts,rfl,z1,z3,z4,z5,z6⟩)) fun h' l=>fin (some T) h' (fun b e=>by cases e;exact z2) l
end
def yT(P:C_)(w:N_):ja:=fun outer H s E e s'=>∃a cls H' od,e=.ref a/\Fly P w outer H s H' a cls od s'/\E cls od H'
def Ax{P:C_}{w:N_}{H:Hp}{h:Heap}{a:Addr}{o:HO}(x:du P w H h a o):∃u,h.get? a=some u:=by cases o with
|lst xs=>obtain⟨_,_,_,_,e⟩:=x;exact⟨_,e⟩
|tup xs=>obtain⟨_,_,_,_,o,e,_⟩:=x;exact⟨_,e⟩
|dK kvs=>obtain⟨_,_,_,_,o,_,_,e,_⟩:=x;exact⟨_,e⟩
|dT kvs=>obtain⟨_,_,_,_,o,_,_,e,_⟩:=x;exact⟨_,e⟩
|set S n=>obtain⟨o,_,_,_,e,_⟩:=x;exact⟨_,e⟩
|ins C dx fs=>obtain⟨_,_,_,e,_⟩:=x;exact⟨_,e⟩
|own y=>exact x
|xd fs=>obtain⟨_,⟨_,_,_,e,_⟩,_⟩:=x;exact⟨_,e⟩
|rng lo hi=>obtain⟨_,_,_,e⟩:=x;exact⟨_,e⟩
|frz ob u=>obtain⟨e,_⟩:=x;exact⟨_,e⟩
|tbl ps=>exact⟨_,(show h.get? a=some _ from x)⟩
|met f y=>exact⟨_,(show h.get? a=some _ from x)⟩
|ext φ=>exact x.2.1
abbrev ij:List Value:=[Value.type "ValueError",Value.type "Exception",Value.type "BaseException",Value.type "object"]
def IL{h:Heap}{z bm:List Value}{v:Value}(t:QcZ h z bm)(hb:z.contains v=true):bm.contains v=true:=by induction t with
|base=>exact hb
|own _ _ _ _ ih=>rw[Qba,ih,QcB]
end DL
namespace DL
open PySem PySem.Spec PyProof.Rows L2
inductive D where
 |non|bl (b:Bool)|int (i:Int)|str (x:Str)
 |tup (ds:List D)|lst (ds:List D)
 |dic (kvs:List (bH×D))
 |obj (c:Nat) (fs:List (Str×D))
instance:Inhabited D:=⟨.non⟩
inductive Res(α:Type) where
 |ok (a:α)|exc (x:D)|stuck
def Res.bind{α β:Type}(r:Res α)(f:α->Res β):Res β:=match r with
|.ok a=>f a
|.exc x=>.exc x
|.stuck=>.stuck
@[simp] def bind_ok{α β:Type}(a:α)(f:α->Res β):(Res.ok a).bind f=f a:=rfl
def fin{α:Type}(r:Res α)(q:α->Prop)(x:D->Prop):Prop:=match r with
|.ok a=>q a
|.exc e=>x e
|.stuck=>False
def cn{α:Type}{r:Res α}{q q':α->Prop}{x:D->Prop}(h:fin r q x)(hq:∀a,q a->q' a):fin r q' x:=by cases r with
|ok a=>exact hq a h
|exc e=>exact h
|stuck=>exact h
def cw{α β:Type}{r:Res α}{f:α->Res β}{q:β->Prop}{x:D->Prop}(h:fin (r.bind f) q x):fin r (fun a=>fin (f a) q x) x:=by cases r with
|ok a=>exact h
|exc e=>exact h
|stuck=>exact h
abbrev GH:=Addr->Option D
inductive Scl:V->D->Prop where
 |non:Scl .non .non
 |bl (b:Bool):Scl (.bl b) (.bl b)
 |int (i:Int):Scl (.int i) (.int i)
 |str (x:Str):Scl (.str x) (.str x)
inductive KC(K:W.Frag)(a:Addr):D->Prop where
|lst {xs:List V} {ds:List D}:cy K (fun _=>none) a xs->Paired Scl xs ds->KC K a (.lst ds)
|tup {xs:List V} {ds:List D}:dy K (fun _=>none) a xs->Paired Scl xs ds->(∃o,K.lookup a=some o/\o.cls=.type "tuple"/\o.dict=none)->KC K a (.tup ds)
inductive RG(K:W.Frag)(G:GH):V->D->Prop where
 |scl {v:V} {d:D}:Scl v d->RG K G v d
 |ref {a:Addr} {d:D}:G a=some d->RG K G (.ref a) d
 |kc {a:Addr} {d:D}:KC K a d->RG K G (.ref a) d
abbrev cR(K:W.Frag)(G:GH):List V->List D->Prop:=Paired (RG K G)
abbrev gS(K:W.Frag)(G:GH):List (bH×V)->List (bH×D)->Prop:=Paired fun p q=>p.1=q.1/\RG K G p.2 q.2
abbrev xD(nm:Str)(ds:List (Str×D)):D:=.obj 0 (("__class__",.str nm)::ds)
def XN(K:W.Frag)(nm:Str)(C:Addr):Prop:=∃o cd,K.lookup C=some o/\o.data=Data.cls cd/\cd.name=nm
def nJ(a C:Addr)(od:Option Addr):Heap->Prop:=fun h=>∃oe vs,h.get? a=some oe/\oe.cls=.ref C/\(∀dx,od=some dx->oe.dict=some dx)/\oe.data=.fields vs
def XF(G:GH)(od:Option Addr)(ds:List (Str×D)):Prop:=match od with
|none=>ds=[]
|some dx=>G dx=some (.obj 1 ds)
def XF.mono{G G':GH}{od:Option Addr}{ds:List (Str×D)}(h:XF G od ds)(ge:∀a d,G a=some d->G' a=some d):XF G' od ds:=by cases od with
|none=>exact h
|some dx=>exact ge _ _ h
abbrev g9(K:W.Frag)(G:GH):List (Str×V)->List (Str×D)->Prop:=Paired fun p q=>p.1=q.1/\RG K G p.2 q.2
abbrev iD(nm:Str)(ds:List (Str×D)):D:=.obj 2 (("__class__",.str nm)::ds)
inductive OB(K:W.Frag)(G:GH)(H:Hp)(a:Addr):D->Prop where
 |lst {xs:List V} {ds:List D}:Rd H a (.lst xs)->cR K G xs ds->OB K G H a (.lst ds)
 |tup {xs:List V} {ds:List D}:Rd H a (.tup xs)->cR K G xs ds->OB K G H a (.tup ds)
 |dic {ob:Obj} {ps:List (bH×V)} {kvs:List (bH×D)}:H a=some (.frz ob (.dK ps))->gS K G ps kvs->OB K G H a (.dic kvs)
 |exc {nm:Str} {C:Addr} {od:Option Addr} {ds:List (Str×D)}:H a=some (.ext (nJ a C od))->XN K nm C->XF G od ds->OB K G H a (xD nm ds)
 |fld {fs:List (Str×V)} {ds:List (Str×D)}:H a=some (.xd fs)->g9 K G fs ds->OB K G H a (.obj 1 ds)
 |ins {nm:Str} {C dx:Addr} {fs:List (Str×V)} {ds:List (Str×D)}:H a=some (.ins C dx fs)->XN K nm C->g9 K G fs ds->OB K G H a (iD nm ds)
def bW(K:W.Frag)(G:GH)(H:Hp):Prop:=∀a d,G a=some d->OB K G H a d
inductive OwnO(K:W.Frag)(G:GH)(H:Hp)(a:Addr):D->Prop where
 |lst {xs:List V} {ds:List D}:H a=some (.lst xs)->cR K G xs ds->OwnO K G H a (.lst ds)
 |dic {ps:List (bH×V)} {kvs:List (bH×D)}:H a=some (.dK ps)->gS K G ps kvs->OwnO K G H a (.dic kvs)
structure Own(K:W.Frag)(G:GH)(H:Hp)(a:Addr)(d:D):Prop where
 un:G a=none
 ob:OwnO K G H a d
structure Grow(K:W.Frag)(G:GH)(H:Hp)(G':GH)(H':Hp):Prop where
 ok:bW K G' H'
 he:∀a o,H a=some o->H' a=some o
 ge:∀a d,G a=some d->G' a=some d
 gf:∀a,H a≠none->G' a=G a
variable{K:W.Frag}{G G' G2:GH}{H H' H2:Hp}{d:D}{v:V}
section
variable{G1:GH}{H1:Hp}{a p:Addr}
def Rd.isS{u:HO}(h:Rd H a u):H a≠none:=by rcases h with h|⟨o,h⟩ <;> rw[h] <;> simp
def RG.mono(h:RG K G v d)(ge:∀a d,G a=some d->G' a=some d):RG K G' v d:=by cases h with
|scl s=>exact .scl s
|ref e=>exact .ref (ge _ _ e)
|kc k=>exact .kc k
def cR.mono{xs:List V}{ds:List D}(h:cR K G xs ds)(ge:∀a d,G a=some d->G' a=some d):cR K G' xs ds:=Paired.mono (fun _ _ r=>r.mono ge) h
def gS.mono{xs:List (bH×V)}{ds:List (bH×D)}(h:gS K G xs ds)(ge:∀a d,G a=some d->G' a=some d):gS K G' xs ds:=Paired.mono (fun _ _ r=>⟨r.1,r.2.mono ge⟩) h
def OB.mono(h:OB K G H a d)(ge:∀a d,G a=some d->G' a=some d)(he:∀o,H a=some o->H' a=some o):OB K G' H' a d:=by
 have rd:∀{u:HO},Rd H a u->Rd H' a u:=fun r=>by
  rcases r with r|⟨o,r⟩
  .exact .inl (he _ r)
  .exact .inr ⟨o,he _ r⟩
 cases h with
|lst r s=>exact .lst (rd r) (s.mono ge)
|tup r s=>exact .tup (rd r) (s.mono ge)
|dic r s=>exact .dic (he _ r) (gS.mono s ge)
|exc r n f=>exact .exc (he _ r) n (f.mono ge)
|fld r s=>exact .fld (he _ r) (Paired.mono (fun _ _ r=>⟨r.1,r.2.mono ge⟩) s)
|ins r n s=>exact .ins (he _ r) n (Paired.mono (fun _ _ r=>⟨r.1,r.2.mono ge⟩) s)
def OB.isS(h:OB K G H a d):H a≠none:=by cases h with
|lst r s=>exact Rd.isS r
|tup r s=>exact Rd.isS r
|dic r s=>rw[r];simp
|exc r n f=>rw[r];simp
|fld r s=>rw[r];simp
|ins r n s=>rw[r];simp
def bW.isN(g:bW K G H)(h:H p=none):G p=none:=by cases e:G p with
|none=>rfl
|some d=>exact absurd h (g p d e).isS
def OwnO.isS(h:OwnO K G H a d):H a≠none:=by cases h with
|lst r s=>rw[r];simp
|dic r s=>rw[r];simp
def OwnO.mono(h:OwnO K G H a d)(ge:∀a d,G a=some d->G' a=some d)(he:∀o,H a=some o->H' a=some o):OwnO K G' H' a d:=by cases h with
|lst r s=>exact .lst (he _ r) (s.mono ge)
|dic r s=>exact .dic (he _ r) (gS.mono s ge)
def Own.mono(h:Own K G H a d)(w:Grow K G H G' H'):Own K G' H' a d:=⟨by rw[w.gf a h.ob.isS];exact h.un,h.ob.mono w.ge fun o e=>w.he _ _ e⟩
def fz(H:Hp)(a:Addr)(ob:Obj):Hp:=match H a with
|some (.dK ps)=>upd H a (.frz ob (.dK ps))
|_=>H
def pP{b:Addr}{ob:Obj}(h:b≠a):fz H a ob b=H b:=by unfold fz;cases e:H a with
|none=>rfl
|some u=>cases u <;> first|rfl|exact bX h
def LZ{xs:List V}{ob:Obj}(h:H a=some (.lst xs)):fz H a ob=H:=by unfold fz;rw[h]
def LY{ps:List (bH×V)}{ob:Obj}(h:H a=some (.dK ps)):fz H a ob a=some (.frz ob (.dK ps)):=by unfold fz;rw[h];exact cQ
def OwnO.fast(h:OwnO K G H a d)(ob:Obj):OB K G (fz H a ob) a d:=by cases h with
|lst r s=>rw[LZ r];exact .lst (.inl r) s
|dic r s=>exact .dic (LY r) s
def bW.fast(g:bW K G H)(hn:G a=none)(ob:Obj):bW K G (fz H a ob):=fun b d e=>by
 have hb:b≠a:=by rintro rfl;rw[hn]at e;cases e
 exact(g b d e).mono (fun _ _ z=>z) fun o z=>by rw[pP hb];exact z
def Grow.refl(g:bW K G H):Grow K G H G H:=⟨g,fun _ _ e=>e,fun _ _ e=>e,fun _ _=>rfl⟩
def Grow.trans(x:Grow K G H G1 H1)(y:Grow K G1 H1 G2 H2):Grow K G H G2 H2:=
 ⟨y.ok,fun a o e=>y.he _ _ (x.he _ _ e),fun a d e=>y.ge _ _ (x.ge _ _ e),fun a h=>by
  have h1:H1 a≠Option.none:=by cases e:H a with
  |none=>exact absurd e h
  |some o=>rw[x.he _ _ e];simp
  rw[y.gf a h1,x.gf a h]⟩
def gset(G:GH)(a:Addr)(d:D):GH:=fun b=>if b=a then some d else G b
def fW:gset G a d a=some d:=if_pos rfl
def ib{b:Addr}(h:b≠a):gset G a d b=G b:=if_neg h
def ii(hn:G a=none):∀b e,G b=some e->gset G a d b=some e:=fun b e h=>by
 have:b≠a:=by rintro rfl;rw[hn]at h;cases h
 rw[ib this];exact h
def bW.gset(g:bW K G H)(hn:G a=none)(o:OB K G H a d):bW K (gset G a d) H:=fun b e h=>by
 by_cases hb:b=a
 .subst hb;rw[fW]at h;cases h;exact o.mono (ii hn) fun _ q=>q
 .rw[ib hb]at h;exact(g b e h).mono (ii hn) fun _ q=>q
def F7(hn:H p=none){o:HO}:∀a u,H a=some u->upd H p o a=some u:=fun a u e=>by rw[bX (mO e hn)];exact e
def Grow.new(g:bW K G H)(hn:H p=none)(o:HO):Grow K G H G (upd H p o):=⟨fun a d e=>(g a d e).mono (fun _ _ q=>q) fun u q=>F7 hn _ _ q,fun a u e=>F7 hn _ _ e,fun _ _ e=>e,fun _ _=>rfl⟩
def Grow.newF(g:bW K G H)(hn:H p=none){o:HO}(ob:OB K G (upd H p o) p d):Grow K G H (gset G p d) (upd H p o):=by have w:=Grow.new g hn o;have gn:=g.isN hn;exact⟨w.ok.gset gn ob,w.he,fun a e h=>ii gn a e h,fun a h=>ib (by rintro rfl;exact h hn)⟩
def Grow.frz(w:Grow K G H G' H')(hn:H a=none)(o:Own K G' H' a d)(ob:Obj):Grow K G H (gset G' a d) (fz H' a ob):=⟨(w.ok.fast o.un ob).gset o.un (o.ob.fast ob),fun b u e=>by rw[pP (by rintro rfl;rw[hn]at e;cases e)];exact w.he b u e,fun b e h=>ii o.un b e (w.ge b e h),fun b h=>by rw[ib (by rintro rfl;exact h hn)];exact w.gf b h⟩
def RG.lst{ds:List D}(g:bW K G H)(h:RG K G v (.lst ds)):∃a xs,v=.ref a/\cy K H a xs/\cR K G xs ds:=by cases h with
|scl s=>cases s
|ref e=>cases g _ _ e with
 |lst r s=>exact⟨_,_,rfl,.inl r,s⟩
|kc k=>cases k with
 |lst r s=>
   refine⟨_,_,rfl,?_,Paired.mono (fun _ _ z=>.scl z) s⟩;rcases r with(r|⟨o,r⟩)|r
   .cases r
   .cases r
   .exact .inr r
def RG.tup{ds:List D}(g:bW K G H)(h:RG K G v (.tup ds)):∃a xs,v=.ref a/\dy K H a xs/\cR K G xs ds:=by cases h with
|scl s=>cases s
|ref e=>cases g _ _ e with
 |tup r s=>exact⟨_,_,rfl,.inl r,s⟩
|kc k=>cases k with
 |tup r s _=>
   refine⟨_,_,rfl,?_,Paired.mono (fun _ _ z=>.scl z) s⟩;rcases r with(r|⟨o,r⟩)|r
   .cases r
   .cases r
   .exact .inr r
def RG.dic{kvs:List (bH×D)}(g:bW K G H)(h:RG K G v (.dic kvs)):∃a ps,v=.ref a/\Rd H a (.dK ps)/\gS K G ps kvs:=by cases h with
|scl s=>cases s
|ref e=>cases g _ _ e with
 |dic r s=>exact⟨_,_,rfl,.inr ⟨_,r⟩,s⟩
|kc k=>cases k
def RG.int{i:Int}(g:bW K G H)(h:RG K G v (.int i)):v=.int i:=by cases h with
|scl s=>cases s;rfl
|ref e=>cases g _ _ e
|kc k=>cases k
def RG.str{x:Str}(g:bW K G H)(h:RG K G v (.str x)):v=.str x:=by cases h with
|scl s=>cases s;rfl
|ref e=>cases g _ _ e
|kc k=>cases k
def RG.bl{b:Bool}(g:bW K G H)(h:RG K G v (.bl b)):v=.bl b:=by cases h with
|scl s=>cases s;rfl
|ref e=>cases g _ _ e
|kc k=>cases k
def RG.non(g:bW K G H)(h:RG K G v .non):v=.non:=by cases h with
|scl s=>cases s;rfl
|ref e=>cases g _ _ e
|kc k=>cases k
def RB(K:W.Frag)(G:GH)(H:Hp)(v:V)(d:D):Prop:=RG K G v d\/∃a,v=.ref a/\Own K G H a d
def RG.rb(h:RG K G v d):RB K G H v d:=.inl h
def RB.mono(h:RB K G H v d)(w:Grow K G H G' H'):RB K G' H' v d:=by
 rcases h with h|⟨a,e,h⟩
 .exact .inl (h.mono w.ge)
 .exact .inr ⟨a,e,h.mono w⟩
def RB.lst{ds:List D}(g:bW K G H)(h:RB K G H v (.lst ds)):∃a xs,v=.ref a/\cy K H a xs/\cR K G xs ds:=by
 rcases h with h|⟨a,e,h⟩
 .exact h.lst g
 .cases h.ob with
 |lst r s=>exact⟨a,_,e,cy.of r,s⟩
def RB.tup{ds:List D}(g:bW K G H)(h:RB K G H v (.tup ds)):∃a xs,v=.ref a/\dy K H a xs/\cR K G xs ds:=by
 rcases h with h|⟨a,e,h⟩
 .exact h.tup g
 .cases h.ob
def RB.dic{kvs:List (bH×D)}(g:bW K G H)(h:RB K G H v (.dic kvs)):∃a ps,v=.ref a/\Rd H a (.dK ps)/\gS K G ps kvs:=by
 rcases h with h|⟨a,e,h⟩
 .exact h.dic g
 .cases h.ob with
 |dic r s=>exact⟨a,_,e,.inl r,s⟩
def RB.int{i:Int}(g:bW K G H)(h:RB K G H v (.int i)):v=.int i:=by
 rcases h with h|⟨a,e,h⟩
 .exact h.int g
 .cases h.ob
def RB.str{x:Str}(g:bW K G H)(h:RB K G H v (.str x)):v=.str x:=by
 rcases h with h|⟨a,e,h⟩
 .exact h.str g
 .cases h.ob
def RB.bl{b:Bool}(g:bW K G H)(h:RB K G H v (.bl b)):v=.bl b:=by
 rcases h with h|⟨a,e,h⟩
 .exact h.bl g
 .cases h.ob
def RB.non(g:bW K G H)(h:RB K G H v .non):v=.non:=by
 rcases h with h|⟨a,e,h⟩
 .exact h.non g
 .cases h.ob
def Paired.get{α β:Type}{F:α->β->Prop}:∀{l:List α}{r:List β}{i:Nat}{b:β},Paired F l r->r[i]? = some b->∃a,l[i]? = some a/\F a b
|_,_,_,_,.nil,e=>by simp at e
|_,_,0,_,.cons h _,e=>by simp at e;subst e;exact⟨_,rfl,h⟩
|_,_,i+1,b,.cons _ t,e=>by obtain⟨a,h1,h2⟩:=Paired.get (i:=i) t (by simpa using e);exact⟨a,by simpa using h1,h2⟩
def Paired.app{α β:Type}{F:α->β->Prop}{l l':List α}{r r':List β}(h:Paired F l r)(q:Paired F l' r'):Paired F (l++l') (r++r'):=by induction h with
|nil=>exact q
|cons h _ ih=>exact .cons h ih
def Paired.tk{α β:Type}{F:α->β->Prop}{l:List α}{r:List β}(n:Nat)(h:Paired F l r):Paired F (l.take n) (r.take n):=by induction h generalizing n with
|nil=>cases n <;> exact .nil
|cons h _ ih=>cases n with
 |zero=>exact .nil
 |succ n=>exact .cons h (ih n)
def Paired.dr{α β:Type}{F:α->β->Prop}{l:List α}{r:List β}(n:Nat)(h:Paired F l r):Paired F (l.drop n) (r.drop n):=by induction h generalizing n with
|nil=>cases n <;> exact .nil
|cons h t ih=>cases n with
 |zero=>exact .cons h t
 |succ n=>exact ih n
def Paired.st{α β:Type}{F:α->β->Prop}{a:α}{b:β}(h:F a b){l:List α}{r:List β}(n:Nat)(p:Paired F l r):Paired F (l.set n a) (r.set n b):=by induction p generalizing n with
|nil=>exact .nil
|cons q t ih=>cases n with
 |zero=>exact .cons h t
 |succ n=>exact .cons q (ih n)
def Paired.er{α β:Type}{F:α->β->Prop}{l:List α}{r:List β}(n:Nat)(p:Paired F l r):Paired F (l.eraseIdx n) (r.eraseIdx n):=by induction p generalizing n with
|nil=>exact .nil
|cons q t ih=>cases n with
 |zero=>exact t
 |succ n=>exact .cons q (ih n)
end
inductive Md where
 |sh|ow|bw
 deriving DecidableEq
abbrev aL:=List (Option D)
structure GE where
 gh:GH
 h0:Hp
 hd:Nat->Option (Option V×Option D)
def Bw(K:W.Frag)(h0:Hp)(G:GH)(H:Hp)(v:V)(d:D):Prop:=RG K G v d\/∃a,v=V.ref a/\Own K G H a d/\h0 a≠none
def Bw.grow{K:W.Frag}{h0:Hp}{G G':GH}{H H':Hp}{v:V}{d:D}(h:Bw K h0 G H v d)(w:Grow K G H G' H'):Bw K h0 G' H' v d:=by
 rcases h with h|⟨a,e,h1,h2⟩
 .exact .inl (h.mono w.ge)
 .exact .inr ⟨a,e,h1.mono w,h2⟩
def Bw.rb{K:W.Frag}{h0:Hp}{G:GH}{H:Hp}{v:V}{d:D}(h:Bw K h0 G H v d):RB K G H v d:=by
 rcases h with h|⟨a,e,h1,h2⟩
 .exact .inl h
 .exact .inr ⟨a,e,h1⟩
def Lk(r:aL)(st:L2.St)(i:Nat)(o:Option V×Option D):Prop:=st[i]? = some o.1/\∀d,r[i]? = some (some d)->o.2=some d
structure SI(X:Cx)(g:GE)(m:List Md)(r:aL)(G:GH)(st:L2.St)(H:Hp):Prop where
 gok:bW X.K G H
 old:∀a o,g.h0 a=some o->H a=some o
 ge:∀a d,g.gh a=some d->G a=some d
 gf:∀a,g.h0 a≠none->G a=g.gh a
 lm:m.length=st.length
 lr:r.length=st.length
 sh:∀(i:Nat) d,r[i]? = some (some d)->m[i]? = some .sh->∃v,st[i]? = some (some v)/\RG X.K G v d
 ow:∀(i:Nat) d,r[i]? = some (some d)->m[i]? = some .ow->∃a,st[i]? = some (some (V.ref a))/\Own X.K G H a d/\g.h0 a=none
 bw:∀(i:Nat) d,r[i]? = some (some d)->m[i]? = some .bw->∃v,st[i]? = some (some v)/\Bw X.K g.h0 G H v d
 dis:∀(i j:Nat) a d e,i≠j->r[i]? = some (some d)->r[j]? = some (some e)->m[i]? = some .ow->m[j]? = some .ow->st[i]? = some (some (V.ref a))->st[j]? = some (some (V.ref a))->False
 lk:∀(i:Nat) o,g.hd i=some o->m[i]? = some .bw->Lk r st i o
variable{X:Cx}{g:GE}{m:List Md}{r:aL}
section
variable{st:L2.St}
def SI.grow(s:SI X g m r G st H)(w:Grow X.K G H G' H'):SI X g m r G' st H' where
 gok:=w.ok
 old:=fun a o e=>w.he _ _ (s.old a o e)
 ge:=fun a d e=>w.ge _ _ (s.ge a d e)
 gf:=fun a h=>by
  have h1:H a≠none:=by cases e:g.h0 a with
  |none=>exact absurd e h
  |some o=>rw[s.old _ _ e];simp
  rw[w.gf a h1,s.gf a h]
 lm:=s.lm
 lr:=s.lr
 sh:=fun i d h1 h2=>by obtain⟨v,h3,h4⟩:=s.sh i d h1 h2;exact⟨v,h3,h4.mono w.ge⟩
 ow:=fun i d h1 h2=>by obtain⟨a,h3,h4,h5⟩:=s.ow i d h1 h2;exact⟨a,h3,h4.mono w,h5⟩
 bw:=fun i d h1 h2=>by obtain⟨v,h3,h4⟩:=s.bw i d h1 h2;exact⟨v,h3,h4.grow w⟩
 dis:=s.dis
 lk:=s.lk
def SI.grown(s:SI X g m r G st H):Grow X.K g.gh g.h0 G H:=⟨s.gok,s.old,s.ge,s.gf⟩
def SI.frz(s:SI X g m r G st H)(i:Nat)(hi:m[i]? = some .ow):(∃G',(∀a d,G a=some d->G' a=some d)/\SI X g (m.set i .sh) r G' st H)\/∃a,∀ob,∃G',(∀a d,G a=some d->G' a=some d)/\SI X g (m.set i .sh) r G' st (fz H a ob):=by
 have Y:i<m.length:=(i_.mp hi).1;by_cases hb:∃d,r[i]? = some (some d)
 .obtain⟨d,hd⟩:=hb;obtain⟨a,h1,h2,h3⟩:=s.ow i d hd hi;refine .inr ⟨a,fun ob=>⟨gset G a d,ii h2.un,(s.gok.fast h2.un ob).gset h2.un (h2.ob.fast ob),fun b o e=>by rw[pP (by rintro rfl;rw[h3]at e;cases e)];exact s.old b o e,fun b e h=>ii h2.un b e (s.ge b e h),fun b h=>?_,by simpa using s.lm,s.lr,?_,?_,?_,?_,fun j o hj hm=>?_⟩⟩
  .rw[ib (by rintro rfl;exact h h3)];exact s.gf b h
  .intro j e hj hm;by_cases U:i=j
   .subst U;rw[hd]at hj;cases hj;exact⟨_,h1,.ref fW⟩
   .rw[b_ U]at hm;obtain⟨v,q1,q2⟩:=s.sh j e hj hm;exact⟨v,q1,q2.mono (ii h2.un)⟩
  .intro j e hj hm;by_cases U:i=j
   .subst U;rw[j_ Y]at hm;cases hm
   .rw[b_ U]at hm;obtain⟨b,q1,q2,q3⟩:=s.ow j e hj hm;have Z:b≠a:=by
     rintro rfl
     exact s.dis i j b d e U hd hj hi hm h1 q1
    exact⟨b,q1,⟨by rw[ib Z];exact q2.un,q2.ob.mono (ii h2.un) fun _ z=>by rw[pP Z];exact z⟩,q3⟩
  .intro j e hj hm;by_cases U:i=j
   .subst U;rw[j_ Y]at hm;cases hm
   .rw[b_ U]at hm;obtain⟨v,q1,q2⟩:=s.bw j e hj hm;refine⟨v,q1,?_⟩;rcases q2 with q2|⟨b,rfl,q2,q3⟩
    .exact .inl (q2.mono (ii h2.un))
    .have Z:b≠a:=by rintro rfl;exact q3 h3
     exact .inr ⟨b,rfl,⟨by rw[ib Z];exact q2.un,q2.ob.mono (ii h2.un) fun _ z=>by rw[pP Z];exact z⟩,q3⟩
  .intro j k b e e' hjk hj hk hm hm' q1 q2;have U:i≠j:=by
    rintro rfl
    rw[j_ Y]at hm;cases hm
   have hik:i≠k:=by
    rintro rfl
    rw[j_ Y]at hm';cases hm'
   rw[b_ U]at hm;rw[b_ hik]at hm';exact s.dis j k b e e' hjk hj hk hm hm' q1 q2
  .refine s.lk j o hj ?_;by_cases U:i=j
   .subst U;rw[j_ Y]at hm;cases hm
   .rw[b_ U]at hm;exact hm
 .refine .inl ⟨G,fun _ _ z=>z,s.gok,s.old,s.ge,s.gf,by simpa using s.lm,s.lr,?_,?_,?_,?_,fun j o hj hm=>?_⟩
  .intro j e hj hm;have U:i≠j:=by rintro rfl;exact hb ⟨e,hj⟩
   rw[b_ U]at hm;exact s.sh j e hj hm
  .intro j e hj hm;have U:i≠j:=by rintro rfl;exact hb ⟨e,hj⟩
   rw[b_ U]at hm;exact s.ow j e hj hm
  .intro j e hj hm;have U:i≠j:=by rintro rfl;exact hb ⟨e,hj⟩
   rw[b_ U]at hm;exact s.bw j e hj hm
  .intro j k b e e' hjk hj hk hm hm' q1 q2;have U:i≠j:=by rintro rfl;exact hb ⟨e,hj⟩
   have hik:i≠k:=by rintro rfl;exact hb ⟨e',hk⟩
   rw[b_ U]at hm;rw[b_ hik]at hm';exact s.dis j k b e e' hjk hj hk hm hm' q1 q2
  .refine s.lk j o hj ?_;by_cases U:i=j
   .subst U;rw[j_ Y]at hm;cases hm
   .rw[b_ U]at hm;exact hm
end
def PE.imp{X:Cx}{e:Expr}{t t':TE}(h:PE X e t)(i:∀σ H Q,t' σ H Q->t σ H Q):PE X e t':=fun pz s σ H Q I q=>h pz s σ H Q I (i σ H Q q)
def PT.imp{X:Cx}{e:Expr}{t t':TT}(h:PT X e t)(i:∀σ H Q,t' σ H Q->t σ H Q):PT X e t':=fun pz s σ H Q I q=>h pz s σ H Q I (i σ H Q q)
def PW.imp{X:Cx}{e:Expr}{t t':TT}(h:PW X e t)(i:∀σ H Q,t' σ H Q->t σ H Q):PW X e t':=fun whole pz s σ H Q I q=>h whole pz s σ H Q I (i σ H Q q)
def PA.imp{X:Cx}{e:List Expr}{t t':TA}(h:PA X e t)(i:∀σ H Q,t' σ H Q->t σ H Q):PA X e t':=fun pos pz s σ H Q I q=>h pos pz s σ H Q I (i σ H Q q)
def PS.imp{X:Cx}{e:Stmt}{t t':TS}(h:PS X e t)(i:∀D σ H,t' D σ H->t D σ H):PS X e t':=fun pz s σ H D I q=>h pz s σ H D I (i D σ H q)
def dq.imp{X:Cx}{e:List Stmt}{t t':TS}(h:dq X e t)(i:∀D σ H,t' D σ H->t D σ H):dq X e t':=fun pz s σ H D I q=>h pz s σ H D I (i D σ H q)
def Kz(X:Cx)(σ:L2.St)(G:GH)(H':Hp)(e:Value)(x:D)(s':h_):Prop:=∃pz s H1 a C od nm ds,e=.ref a/\x=xD nm ds/\XN X.K nm C/\XF G od ds/\Inv X pz σ H1 s/\Fly X.prog X.w X.stack H1 s H' a (.ref C) od s'
def XW(X:Cx)(σ:L2.St)(G:GH)(H:Hp)(x:D):Prop:=∀pz e s' G' H',Grow X.K G H G' H'->Inv X pz σ H' s'->Kz X σ G' H' e x s'->X.xe e s'
def XW.grow{X:Cx}{σ:L2.St}{G G1:GH}{H H1:Hp}{x:D}(h:XW X σ G H x)(w:Grow X.K G H G1 H1):XW X σ G1 H1 x:=fun pz e s' G' H' w' I q=>h pz e s' G' H' (w.trans w') I q
abbrev FE:=aL->Res D
def tE(X:Cx)(g:GE)(m:List Md)(f:FE):TE:=fun σ H Q=>∃r G,SI X g m r G σ H/\fin (f r) (fun d=>∀v G' H',Grow X.K G H G' H'->RG X.K G' v d->Q v H') (XW X σ G H)
def tB(X:Cx)(g:GE)(m:List Md)(f:FE):TE:=fun σ H Q=>∃r G,SI X g m r G σ H/\fin (f r) (fun d=>∀v G' H',Grow X.K G H G' H'->RB X.K G' H' v d->Q v H') (XW X σ G H)
def tO(X:Cx)(g:GE)(m:List Md)(f:FE):TE:=fun σ H Q=>∃r G,SI X g m r G σ H/\fin (f r) (fun d=>∀a G' H',Grow X.K G H G' H'->H a=none->Own X.K G' H' a d->Q (.ref a) H') (XW X σ G H)
def tQ(X:Cx)(g:GE)(m:List Md)(f:aL->Res Bool):TT:=fun σ H Q=>∃r G,SI X g m r G σ H/\fin (f r) (fun b=>∀G' H',Grow X.K G H G' H'->Q b H') (XW X σ G H)
def tL(X:Cx)(g:GE)(m:List Md)(f:aL->Res (List D)):TA:=fun σ H Q=>∃r G,SI X g m r G σ H/\fin (f r) (fun ds=>∀vs G' H',Grow X.K G H G' H'->cR X.K G' vs ds->Q vs H') (XW X σ G H)
def Ec(X:Cx)(g:GE)(m:List Md)(f:aL->Res (List D)):TA:=fun σ H Q=>∃r G,SI X g m r G σ H/\fin (f r) (fun ds=>∀vs G' H',Grow X.K G H G' H'->Paired (RB X.K G' H') vs ds->Q vs H') (XW X σ G H)
def SE(X:Cx)(g:GE)(m:List Md)(e:Expr)(f:FE):Prop:=PE X e (tE X g m f)
def SB(X:Cx)(g:GE)(m:List Md)(e:Expr)(f:FE):Prop:=PE X e (tB X g m f)
def SO(X:Cx)(g:GE)(m:List Md)(e:Expr)(f:FE):Prop:=PE X e (tO X g m f)
def SQ(X:Cx)(g:GE)(m:List Md)(e:Expr)(f:aL->Res Bool):Prop:=PT X e (tQ X g m f)
def SW(X:Cx)(g:GE)(m:List Md)(e:Expr)(f:aL->Res Bool):Prop:=PW X e (tQ X g m f)
def SA(X:Cx)(g:GE)(m:List Md)(es:List Expr)(f:aL->Res (List D)):Prop:=PA X es (tL X g m f)
def iy(X:Cx)(g:GE)(m:List Md)(es:List Expr)(f:aL->Res (List D)):Prop:=PA X es (Ec X g m f)
variable{a e b c:Expr}{f fa fc:FE}{pos:Pos}
section
variable{fb:FE}
def SE.toB(h:SE X g m e f):SB X g m e f:=PE.imp h fun σ H Q ⟨r,G,si,q⟩=>⟨r,G,si,cn q fun d k v G' H' w z=>k v G' H' w z.rb⟩
def Inv.fast{pz:List (Addr×Obj)}{σ:L2.St}{H:Hp}{s:h_}(I:Inv X pz σ H s)(a:Addr):∃ob,Inv X pz σ (fz H a ob) s:=by cases e:H a with
|none=>exact⟨{ cls:=.none,data:=.fields #[] },by unfold fz;rw[e];exact I⟩
|some u=>cases u with
 |dK ps=>
   obtain⟨z1,z2,vs,z3,o,es,ep,z4,z5⟩:=(show du X.prog X.w H s.heap a (.dK ps)from I.hok a _ e)
   have ef:fz H a o=upd H a (.frz o (.dK ps)):=by unfold fz;rw[e]
   refine⟨o,?_⟩;rw[ef];exact I.write (t':=s.toks) (h':=s.heap) (x:=a) (e:=a) (by rw[e];exact trivial) (.inl rfl) (fun b u _ q=>q) ⟨o,z4⟩ (show du X.prog X.w _ s.heap a (.frz o (.dK ps))from⟨z4,z1,z2,vs,z3,o,es,ep,z4,z5⟩)
 |_=>exact⟨{ cls:=.none,data:=.fields #[] },by unfold fz;rw[e];exact I⟩
def SO.toE(h:SO X g m e f):SE X g m e f:=by intro pz s σ H Q I ⟨r,G,si,q⟩;refine bL (h pz s σ H (fun v H'=>∃a,v=.ref a/\∀ob,Q v (fz H' a ob)) I ⟨r,G,si,cn q fun d k a G' H' w hn o=>⟨a,rfl,fun ob=>k _ _ _ (w.frz hn o ob) (.ref fW)⟩⟩) fun u s' ⟨v,H',I',rv,a,_,z⟩=>?_;obtain⟨ob,I2⟩:=Inv.fast I' a;exact⟨v,_,I2,rv,z ob⟩
def SO.toB(h:SO X g m e f):SB X g m e f:=h.toE.toB
def vC{v:V}{d:D}(h:PE X e (tC v))(s:Scl v d):SE X g m e fun _=>.ok d:=PE.imp h fun σ H Q ⟨r,G,si,q⟩=>q v G H (Grow.refl si.gok) (.scl s)
def dz{i:Int}{j}:SE X g m (.Constant (.int i) j pos) fun _=>.ok (.int i):=vC MG (.int i)
def ck{i:Bool}{j}:SE X g m (.Constant (.bool i) j pos) fun _=>.ok (.bl i):=vC LF (.bl i)
def kl{j}:SE X g m (.Constant .none j pos) fun _=>.ok .non:=vC MH .non
def jY{i:Str}{j}:SE X g m (.Constant (.str i) j pos) fun _=>.ok (.str i):=vC Ge (.str i)
def c8(r:aL)(i:Nat):Res D:=match r[i]? with
|some (some d)=>.ok d
|_=>.stuck
def vJ{r:aL}{i:Nat}{q:D->Prop}{x:D->Prop}(h:fin (c8 r i) q x):∃d,r[i]? = some (some d)/\q d:=by
 unfold c8 at h;split at h
 .rename_i d e;exact⟨d,e,h⟩
 .exact h.elim
def K6(i:Nat){x:Str}(hm:m[i]? = some .sh)(hN:X.N[i]? = some x)(hv:gA X.env.scope x)(hd:(x==("__debug__" : Str))=false:=by decide)(z:(x==("__classdict__" : Str))=false:=by decide):SE X g m (.Name x pos) fun r=>c8 r i:=by refine PE.imp (gP hN hv hd z) fun σ H Q ⟨r,G,si,q⟩=>?_;obtain⟨d,e,k⟩:=vJ q;obtain⟨v,e1,e2⟩:=si.sh i d e hm;exact⟨v,e1,k v G H (Grow.refl si.gok) e2⟩
def N4(i:Nat){x:Str}(hm:i<m.length)(hN:X.N[i]? = some x)(hv:gA X.env.scope x)(hd:(x==("__debug__" : Str))=false:=by decide)(z:(x==("__classdict__" : Str))=false:=by decide):SB X g m (.Name x pos) fun r=>c8 r i:=by refine PE.imp (gP hN hv hd z) fun σ H Q ⟨r,G,si,q⟩=>?_;obtain⟨d,e,k⟩:=vJ q;have hm':m[i]? = some m[i]:=o_ hm;cases h:m[i]with
|sh=>obtain⟨v,e1,e2⟩:=si.sh i d e (hm'.trans (by rw[h]));exact⟨v,e1,k v G H (Grow.refl si.gok) e2.rb⟩
|ow=>obtain⟨v,e1,e2,_⟩:=si.ow i d e (hm'.trans (by rw[h]));exact⟨_,e1,k _ G H (Grow.refl si.gok) (.inr ⟨v,rfl,e2⟩)⟩
|bw=>obtain⟨v,e1,e2⟩:=si.bw i d e (hm'.trans (by rw[h]));exact⟨_,e1,k _ G H (Grow.refl si.gok) e2.rb⟩
def nh{β:Type}{k:D->D->Res β}{q:β->Prop}{R:V->V->Hp->Prop}{r:aL}{G:GH}{σ:L2.St}{H:Hp}(si:SI X g m r G σ H)(h:fin ((fa r).bind fun d1=>(fb r).bind fun d2=>k d1 d2) q (XW X σ G H))(hk:∀d1 d2 v1 v2 G2 H2,Grow X.K G H G2 H2->RB X.K G2 H2 v1 d1->RB X.K G2 H2 v2 d2->fin (k d1 d2) q (XW X σ G H)->R v1 v2 H2):tB X g m fa σ H fun v1 H1=>tB X g m fb σ H1 fun v2 H2=>R v1 v2 H2:=by refine⟨r,G,si,cn (cw h) fun d1 h1 v1 G1 H1 w1 r1=>⟨r,G1,si.grow w1,?_⟩⟩;cases e:fb r with
|ok d2=>rw[e]at h1;exact fun v2 G2 H2 w2 r2=>hk d1 d2 v1 v2 G2 H2 (w1.trans w2) (r1.mono w2) r2 h1
|exc x=>rw[e]at h1;exact(show XW X σ G H x from h1).grow w1
|stuck=>rw[e]at h1;exact h1
def dw{α:Type}:Option α->Res α
|some a=>.ok a
|none=>.stuck
@[simp] def opt_some{α:Type}(a:α):dw (some a)=.ok a:=rfl
def dQ{α:Type}{o:Option α}{q:α->Prop}{x:D->Prop}(h:fin (dw o) q x):∃a,o=some a/\q a:=by cases o with
|none=>exact h.elim
|some a=>exact⟨a,rfl,h⟩
def fH(K:W.Frag)(r:R2)(k:D->D->Option D):Prop:=∀(G:GH)(H:Hp)(v1 v2:V)(d1 d2 d:D)(Q:VK),bW K G H->RB K G H v1 d1->RB K G H v2 d2->k d1 d2=some d ->(∀v G' H',Grow K G H G' H'->RG K G' v d->Q v H')->r v1 v2 H Q
def f2(fa fb:FE)(k:D->D->Option D):FE:=fun r=>(fa r).bind fun d1=>(fb r).bind fun d2=>dw (k d1 d2)
def zW{R:R2}{k:D->D->Option D}(ho:fH X.K R k)(h:PE X e (sr R (tB X g m fa) (tB X g m fb))):SE X g m e (f2 fa fb k):=by refine PE.imp h fun σ H Q ⟨r,G,si,q⟩=>?_;refine nh si q fun d1 d2 v1 v2 G2 H2 w r1 r2 q2=>?_;obtain⟨d,e,q2⟩:=dQ q2;exact ho G2 H2 v1 v2 d1 d2 d Q w.ok r1 r2 e fun v G' H' w' z=>q2 v G' H' (w.trans w') z
def jX{op:Operator}{R:R2}{k:D->D->Option D}(hr:cu X (Z_ op) R)(ho:fH X.K R k)(ha:SB X g m a fa)(hb:SB X g m b fb):SE X g m (.BinOp a op b pos) (f2 fa fb k):=zW ho (Fs hr ha hb)
def lh{op:CmpOp}{R:R2}{k:D->D->Option D}(hr:cu X (Y6 op) R)(ho:fH X.K R k)(ha:SB X g m a fa)(hb:SB X g m b fb)(hm:Qab op b=false):SE X g m (.Compare a [op] [b] pos) (f2 fa fb k):=zW ho (PN hr ha hb hm)
def sX:D->Option Bool
|.bl b=>some b
|_=>none
def dY(f:FE):aL->Res Bool:=fun r=>(f r).bind fun d=>dw (sX d)
def nZ{op:CmpOp}{R:R2}{k:D->D->Option D}(hr:cu X (Y6 op) R)(ho:fH X.K R k)(ha:SB X g m a fa)(hb:SB X g m b fb)(hm:Qab op b=false):SQ X g m (.Compare a [op] [b] pos) (dY (f2 fa fb k)):=by
 refine PT.imp (Pq hr ha hb hm) fun σ H Q ⟨r,G,si,q⟩=>?_;have e:dY (f2 fa fb k) r=(fa r).bind fun d1=>(fb r).bind fun d2=>(dw (k d1 d2)).bind fun d=>dw (sX d):=by unfold dY f2;cases fa r with
 |ok d1=>cases fb r <;> rfl
 |exc _=>rfl
 |stuck=>rfl
 rw[e]at q;refine nh (R:=fun x y H2=>R x y H2 fun x H'=>∃k,x=V.bl k/\Q k H') si q fun d1 d2 v1 v2 G2 H2 w r1 r2 q3=>?_;obtain⟨d,e,q3⟩:=dQ (cw q3);obtain⟨b,eb,q3⟩:=dQ q3;cases d with
|bl b'=>cases eb;exact ho G2 H2 v1 v2 d1 d2 _ _ w.ok r1 r2 e fun v G' H' w' z=>⟨_,z.bl w'.ok,q3 G' H' (w.trans w')⟩
|_=>cases eb
end
instance decMul(i j:Int):Decidable (iA i j):=by unfold iA;infer_instance
instance decDiv(i j:Int):Decidable (jb i j):=by unfold jb;infer_instance
instance decPow(i j:Int):Decidable (hJ i j):=by unfold hJ;infer_instance
def lZ(k:Int->Int->D):D->D->Option D
|.int a,.int b=>some (k a b)
|_,_=>none
def jx(C:Int->Int->Prop)[∀a b,Decidable (C a b)](k:Int->Int->D):D->D->Option D
|.int a,.int b=>if C a b then some (k a b)else none
|_,_=>none
@[simp] def intsC_int(C:Int->Int->Prop)[∀a b,Decidable (C a b)](k:Int->Int->D)(a b:Int):jx C k (.int a) (.int b)=if C a b then some (k a b)else none:=rfl
def lA{gv:Int->Int->V}{gd:Int->Int->D}(hs:∀i j,Scl (gv i j) (gd i j)):fH K (jG gv) (lZ gd):=by
 intro G H v1 v2 d1 d2 d Q g r1 r2 e q;unfold lZ at e;split at e
 .cases e;exact⟨_,_,r1.int g,r2.int g,q _ G H (Grow.refl g) (.scl (hs _ _))⟩
 .cases e
def o7{C:Int->Int->Prop}[∀a b,Decidable (C a b)]{gv:Int->Int->V}{gd:Int->Int->D}(hs:∀i j,Scl (gv i j) (gd i j)):fH K (rI C gv) (jx C gd):=by
 intro G H v1 v2 d1 d2 d Q g r1 r2 e q;unfold jx at e;split at e
 .split at e
  .rename_i hc;cases e;exact⟨_,_,r1.int g,r2.int g,hc,q _ G H (Grow.refl g) (.scl (hs _ _))⟩
  .cases e
 .cases e
abbrev iV:D->D->Option D:=lZ fun a b=>.int (a-b)
abbrev d5:D->D->Option D:=jx iA fun a b=>.int (a*b)
abbrev pO:D->D->Option D:=jx jb fun a b=>.int (a/b)
abbrev dm:D->D->Option D:=jx (fun _ b=>0<b) fun a b=>.int (a%b)
abbrev io:D->D->Option D:=jx hJ fun a b=>.int (a^b.toNat)
abbrev lO:D->D->Option D:=lZ fun a b=>.bl (decide (a<b))
abbrev UQ:D->D->Option D:=lZ fun a b=>.bl (decide (a<=b))
abbrev nC:D->D->Option D:=lZ fun a b=>.bl (decide (b<a))
abbrev yN:D->D->Option D:=lZ fun a b=>.bl (decide (b<=a))
variable{p q:FQ}{es:List Expr}{fl:aL->Res (List D)}
section
variable{fb:FE}
def zN(ha:SB X g m a fa)(hb:SB X g m b fb):SE X g m (.BinOp a .Sub b pos) (f2 fa fb iV):=jX MB (lA fun _ _=>.int _) ha hb
def lj(ha:SB X g m a fa)(hb:SB X g m b fb):SE X g m (.BinOp a .Mult b pos) (f2 fa fb d5):=jX My (o7 fun _ _=>.int _) ha hb
def NV(ha:SB X g m a fa)(hb:SB X g m b fb):SE X g m (.BinOp a .FloorDiv b pos) (f2 fa fb pO):=jX Ov (o7 fun _ _=>.int _) ha hb
def jg(ha:SB X g m a fa)(hb:SB X g m b fb):SE X g m (.BinOp a .Mod b pos) (f2 fa fb dm):=jX Mx (o7 fun _ _=>.int _) ha hb
def FK(ha:SB X g m a fa)(hb:SB X g m b fb):SE X g m (.BinOp a .Pow b pos) (f2 fa fb io):=jX Mz (o7 fun _ _=>.int _) ha hb
def sE(ha:SB X g m a fa)(hb:SB X g m b fb):SE X g m (.Compare a [.Lt] [b] pos) (f2 fa fb lO):=lh zA (lA fun _ _=>.bl _) ha hb (jA _)
def nj(ha:SB X g m a fa)(hb:SB X g m b fb):SE X g m (.Compare a [.Gt] [b] pos) (f2 fa fb nC):=lh Fw (lA fun _ _=>.bl _) ha hb (jA _)
def Ep(ha:SB X g m a fa)(hb:SB X g m b fb):SE X g m (.Compare a [.GtE] [b] pos) (f2 fa fb yN):=lh LB (lA fun _ _=>.bl _) ha hb (jA _)
def kQ(ha:SB X g m a fa)(hb:SB X g m b fb):SQ X g m (.Compare a [.Lt] [b] pos) (dY (f2 fa fb lO)):=nZ zA (lA fun _ _=>.bl _) ha hb (jA _)
def sP(ha:SB X g m a fa)(hb:SB X g m b fb):SQ X g m (.Compare a [.Gt] [b] pos) (dY (f2 fa fb nC)):=nZ Fw (lA fun _ _=>.bl _) ha hb (jA _)
def f1(fa:FE)(k:D->Option D):FE:=fun r=>(fa r).bind fun d=>dw (k d)
def nA:D->Option D
|.int a=>some (.int (-a))
|_=>none
@[simp] def negI_int(a:Int):nA (.int a)=some (.int (-a)):=rfl
def zV(ha:SB X g m a fa):SE X g m (.UnaryOp .USub a pos) (f1 fa nA):=by
 refine PE.imp (KO NA ha) fun σ H Q ⟨r,G,si,q⟩=>⟨r,G,si,cn (cw q) fun d q1 v G1 H1 w1 r1=>?_⟩
 obtain⟨d',e,q2⟩:=dQ q1;cases d with
|int i=>cases e;exact⟨i,r1.int w1.ok,q2 _ G1 H1 w1 (.scl (.int _))⟩
|_=>cases e
def jD:D->Option Bool
|.non=>some false
|.bl b=>some b
|.int i=>some (i != 0)
|.str y=>if y.length<=sizeLine then some ((y.length:Int) != 0)else none
|.lst ds=>some (! ds.isEmpty)
|.tup ds=>some (! ds.isEmpty)
|.dic kvs=>some (! kvs.isEmpty)
|.obj _ _=>none
def BQ{α β:Type}{F:α->β->Prop}{l:List α}{r:List β}(h:Paired F l r):l.isEmpty=r.isEmpty:=by cases h <;> rfl
def Pd{K:W.Frag}{G:GH}{H:Hp}{v:V}{d:D}{b:Bool}(gk:bW K G H)(h:RB K G H v d)(e:jD d=some b):nK K v H b:=by cases d with
|non=>cases e;rw[h.non gk];rfl
|bl b'=>cases e;rw[h.bl gk];rfl
|int i=>cases e;rw[h.int gk];rfl
|str y=>
  rw[h.str gk];have e':(if y.length<=sizeLine then some ((y.length:Int) != 0)else none)=some b:=e;by_cases hy:y.length<=sizeLine
  .rw[if_pos hy]at e';cases e';exact⟨hy,rfl⟩
  .rw[if_neg hy]at e';cases e'
|lst ds=>cases e;obtain⟨a,xs,rfl,s,r⟩:=h.lst gk;exact .inl ⟨xs,s,by rw[BQ r]⟩
|tup ds=>cases e;obtain⟨a,xs,rfl,s,r⟩:=h.tup gk;exact .inr (.inl ⟨xs,s,by rw[BQ r]⟩)
|dic kvs=>cases e;obtain⟨a,xs,rfl,s,r⟩:=h.dic gk;exact .inr (.inr ⟨xs,s,by rw[BQ r]⟩)
|obj _ _=>cases e
def cW(f:FE):aL->Res Bool:=fun r=>(f r).bind fun d=>dw (jD d)
def dA(ha:SB X g m a fa)(he:∀whole,isTrue a X.env whole=(do let v <-whole;Qca a.pos;Qam [v] (truthy v)):=by intro _;rfl):SQ X g m a (cW fa):=by
 refine PT.imp (Qc ha he) fun σ H Q ⟨r,G,si,q⟩=>⟨r,G,si,cn (cw q) fun d q1 v G1 H1 w1 r1=>?_⟩
 obtain⟨b,e,q2⟩:=dQ q1;exact⟨b,Pd w1.ok r1 e,q2 G1 H1 w1⟩
abbrev FQ:=aL->Res Bool
def iq(p q:FQ):FQ:=fun r=>(p r).bind fun c=>if c=true then q r else .ok false
def iK(p q:FQ):FQ:=fun r=>(p r).bind fun c=>if c=true then .ok true else q r
def dG(p:FQ):FQ:=fun r=>(p r).bind fun c=>.ok (! c)
variable{rest:List Expr}
def Lj{α:Type}{r:Res α}{q:α->Prop}{x x':D->Prop}(h:fin r q x)(hx:∀e,x e->x' e):fin r q x':=by cases r with
|ok a=>exact h
|exc e=>exact hx e h
|stuck=>exact h
def iR{α:Type}{r:Res α}{σ:L2.St}{G G1:GH}{H H1:Hp}{P P':α->Prop}(h:fin r P (XW X σ G H))(w:Grow X.K G H G1 H1)(hp:∀a,P a->P' a):fin r P' (XW X σ G1 H1):=Lj (cn h hp) fun _ x=>x.grow w
def Gi(ha:SQ X g m a p):SW X g m (.BoolOp .And [a] pos) p:=Ps ha
def hW(ha:SQ X g m a p):SW X g m (.BoolOp .Or [a] pos) p:=N8 ha
def FO(ha:SQ X g m a p)(hb:SW X g m (.BoolOp .And (b::rest) pos) q):SW X g m (.BoolOp .And (a::b::rest) pos) (iq p q):=by
 refine PW.imp (N7 ha hb) fun σ H Q ⟨r,G,si,k⟩=>⟨r,G,si,cn (cw k) fun c k1 G1 H1 w1=>?_⟩
 cases c with
|true=>rw[if_pos rfl]at k1 ⊢;exact⟨r,G1,si.grow w1,iR k1 w1 fun b z G' H' w'=>z G' H' (w1.trans w')⟩
|false=>rw[if_neg k_]at k1 ⊢;exact k1 G1 H1 w1
def df(ha:SQ X g m a p)(hb:SW X g m (.BoolOp .Or (b::rest) pos) q):SW X g m (.BoolOp .Or (a::b::rest) pos) (iK p q):=by
 refine PW.imp (KU ha hb) fun σ H Q ⟨r,G,si,k⟩=>⟨r,G,si,cn (cw k) fun c k1 G1 H1 w1=>?_⟩
 cases c with
|true=>rw[if_pos rfl]at k1 ⊢;exact k1 G1 H1 w1
|false=>rw[if_neg k_]at k1 ⊢;exact⟨r,G1,si.grow w1,iR k1 w1 fun b z G' H' w'=>z G' H' (w1.trans w')⟩
def SW.toQ(h:SW X g m e p):SQ X g m e p:=PW.pt h
def dW(ha:SQ X g m a p):SQ X g m (.UnaryOp .Not a pos) (dG p):=PT.imp (MS ha) fun σ H Q ⟨r,G,si,k⟩=>⟨r,G,si,cn (cw k) fun c k1 G1 H1 w1=>k1 G1 H1 w1⟩
def fQ(fa fb:FE):FE:=fun r=>(fa r).bind fun d=>(dw (sX d)).bind fun c=>if c=true then fb r else .ok (.bl false)
def mZ(fa:FE):FE:=fun r=>(fa r).bind fun d=>(dw (sX d)).bind fun c=>.ok (.bl (! c))
def gm{op}(h:SE X g m a fa):SE X g m (.BoolOp op [a] pos) fa:=MJ h
def fg(ha:SE X g m a fa)(hb:SE X g m (.BoolOp .And (b::rest) pos) fb):SE X g m (.BoolOp .And (a::b::rest) pos) (fQ fa fb):=by
 refine PE.imp (MC ha hb) fun σ H Q ⟨r,G,si,k⟩=>⟨r,G,si,cn (cw k) fun d k1 v G1 H1 w1 r1=>?_⟩
 obtain⟨c,e,k2⟩:=dQ (cw k1);cases d with
|bl c'=>cases e;refine⟨_,r1.bl w1.ok,?_⟩;cases c with
 |true=>rw[if_pos rfl]at k2 ⊢;exact⟨r,G1,si.grow w1,iR k2 w1 fun b z v G' H' w'=>z v G' H' (w1.trans w')⟩
 |false=>rw[if_neg k_]at k2 ⊢;exact k2 _ G1 H1 w1 (.scl (.bl _))
|_=>cases e
def FJ(ha:SE X g m a fa):SE X g m (.UnaryOp .Not a pos) (mZ fa):=by
 refine PE.imp (MI ha) fun σ H Q ⟨r,G,si,k⟩=>⟨r,G,si,cn (cw k) fun d k1 v G1 H1 w1 r1=>?_⟩
 obtain⟨c,e,k2⟩:=dQ (cw k1);cases d with
|bl c'=>cases e;exact⟨_,r1.bl w1.ok,k2 _ G1 H1 w1 (.scl (.bl _))⟩
|_=>cases e
variable{fr:aL->Res (List D)}
def aH:aL->Res (List D):=fun _=>.ok []
def aJ(fa:FE)(fl:aL->Res (List D)):aL->Res (List D):=fun r=>(fa r).bind fun d=>(fl r).bind fun ds=>.ok (d::ds)
def bZ:SA X g m [] aH:=PA.imp iE fun σ H Q ⟨r,G,si,k⟩=>k [] G H (Grow.refl si.gok) .nil
def aV(ha:SE X g m e fa)(hr:SA X g m es fl)(hs:f_ (e::es) X.env=(false,eval e X.env)::f_ es X.env:=by rfl):SA X g m (e::es) (aJ fa fl):=by
 refine PA.imp (fO ha hr hs) fun σ H Q ⟨r,G,si,k⟩=>⟨r,G,si,cn (cw k) fun d k1 v G1 H1 w1 r1=>⟨r,G1,si.grow w1,?_⟩⟩
 exact iR (cw k1) w1 fun ds z vs G2 H2 w2 r2=>z (v::vs) G2 H2 (w1.trans w2) (.cons (r1.mono w2.ge) r2)
def bJ:iy X g m [] aH:=PA.imp iE fun σ H Q ⟨r,G,si,k⟩=>k [] G H (Grow.refl si.gok) .nil
def bK(ha:SB X g m e fa)(hr:iy X g m es fl)(hs:f_ (e::es) X.env=(false,eval e X.env)::f_ es X.env:=by rfl):iy X g m (e::es) (aJ fa fl):=by
 refine PA.imp (fO ha hr hs) fun σ H Q ⟨r,G,si,k⟩=>⟨r,G,si,cn (cw k) fun d k1 v G1 H1 w1 r1=>⟨r,G1,si.grow w1,?_⟩⟩
 exact iR (cw k1) w1 fun ds z vs G2 H2 w2 r2=>z (v::vs) G2 H2 (w1.trans w2) (.cons (r1.mono w2) r2)
def sz(ds:List D):Option (List D):=if ds.length<=sizeLine then some ds else none
def tX{ds ds':List D}(h:sz ds=some ds'):ds'=ds/\ds.length<=sizeLine:=by
 unfold sz at h;split at h
 .rename_i hl;cases h;exact⟨rfl,hl⟩
 .cases h
def K9{ds:List D}(h:ds.length<=sizeLine):sz ds=some ds:=if_pos h
def cz(fl:aL->Res (List D)):FE:=fun r=>(fl r).bind fun ds=>(dw (sz ds)).bind fun ds=>.ok (.tup ds)
def ig(fl:aL->Res (List D)):FE:=fun r=>(fl r).bind fun ds=>(dw (sz ds)).bind fun ds=>.ok (.lst ds)
def cS{x1}(h:SA X g m es fl):SE X g m (.Tuple es x1 pos) (cz fl):=by
 refine PE.imp (Gf h) fun σ H Q ⟨r,G,si,k⟩=>⟨r,G,si,cn (cw k) fun ds k1 vs G1 H1 w1 r1=>?_⟩
 obtain⟨ds',e,k2⟩:=dQ (cw k1);obtain⟨rfl,hl⟩:=tX e;have hlen:=Paired.length r1;refine⟨by omega,fun p hp=>?_⟩;exact k2 _ _ _ (w1.trans (Grow.newF (d:=.tup ds') w1.ok hp (.tup (.inl cQ) r1))) (.ref fW)
def gM(h:SA X g m es fl):SO X g m (.List es pos) (ig fl):=by
 refine PE.imp (Al h) fun σ H Q ⟨r,G,si,k⟩=>⟨r,G,si,cn (cw k) fun ds k1 vs G1 H1 w1 r1=>?_⟩
 obtain⟨ds',e,k2⟩:=dQ (cw k1);obtain⟨rfl,hl⟩:=tX e;have hlen:=Paired.length r1;refine⟨by omega,fun p hp=>?_⟩;have hn:H p=none:=by cases q:H p with
 |none=>rfl
 |some o=>rw[w1.he _ _ q]at hp;cases hp
 exact k2 p G1 _ (w1.trans (Grow.new w1.ok hp _)) hn ⟨w1.ok.isN hp,.lst cQ r1⟩
end
def lX(K:W.Frag)(r:List V->Hp->VK->Prop)(k:List D->Option D):Prop:=∀(G:GH)(H:Hp)(vs:List V)(ds:List D)(d:D)(Q:VK),bW K G H->Paired (RB K G H) vs ds->k ds=some d ->(∀v G' H',Grow K G H G' H'->RG K G' v d->Q v H')->r vs H Q
def Fd(K:W.Frag)(r:List V->Hp->VK->Prop)(k:List D->Option D):Prop:=∀(G:GH)(H:Hp)(vs:List V)(ds:List D)(d:D)(Q:VK),bW K G H->Paired (RB K G H) vs ds->k ds=some d ->(∀a G' H',Grow K G H G' H'->H a=none->Own K G' H' a d->Q (.ref a) H')->r vs H Q
def fC(fl:aL->Res (List D))(k:List D->Option D):FE:=fun r=>(fl r).bind fun ds=>dw (k ds)
def Grow.back{K:W.Frag}{G G1:GH}{H H1:Hp}(w:Grow K G H G1 H1){a:Addr}(hn:H1 a=none):H a=none:=by cases q:H a with
|none=>rfl
|some o=>rw[w.he _ _ q]at hn;cases hn
variable{id T:String}
section
variable{fb:FE}{p p2:Pos}{x:Str}{R:List V->Hp->VK->Prop}{k:List D->Option D}
def ik(hk:lX X.K R k)(h:PE X e (sv R (Ec X g m fl))):SE X g m e (fC fl k):=by
 refine PE.imp h fun σ H Q ⟨r,G,si,q⟩=>⟨r,G,si,cn (cw q) fun ds q1 vs G1 H1 w1 r1=>?_⟩
 obtain⟨d,e,q2⟩:=dQ q1;exact hk G1 H1 vs ds d Q w1.ok r1 e fun v G' H' w' z=>q2 v G' H' (w1.trans w') z
def K1(hk:Fd X.K R k)(h:PE X e (sv R (Ec X g m fl))):SO X g m e (fC fl k):=by
 refine PE.imp h fun σ H Q ⟨r,G,si,q⟩=>⟨r,G,si,cn (cw q) fun ds q1 vs G1 H1 w1 r1=>?_⟩
 obtain⟨d,e,q2⟩:=dQ q1;exact hk G1 H1 vs ds d Q w1.ok r1 e fun v G' H' w' hn z=>q2 v G' H' (w1.trans w') (w1.back hn) z
def lenD:List D->Option D
|[.str y]=>if y.length<=sizeLine then some (.int y.length)else none
|[.lst ds]=>some (.int ds.length)
|[.tup ds]=>some (.int ds.length)
|[.dic kvs]=>some (.int kvs.length)
|_=>none
def M4{K:W.Frag}:lX K (fun xs H Q=>(∃x n,xs=[x]/\tm K x H n/\Q (.int n) H)\/∃a kvs,xs=[V.ref a]/\Rd H a (.dK kvs)/\Q (.int kvs.length) H) lenD:=by
 intro G H vs ds d Q gk rs e q;unfold lenD at e;split at e
 .split at e
  .cases e;cases rs with
  |cons r t=>cases t;exact .inl ⟨_,_,rfl,by rw[r.str gk];exact⟨by assumption,rfl⟩,q _ G H (Grow.refl gk) (.scl (.int _))⟩
  .cases e
 .cases e;cases rs with
 |cons r t=>cases t;obtain⟨a,xs,rfl,s,r⟩:=r.lst gk;have:=Paired.length r;exact .inl ⟨_,_,rfl,.inl ⟨xs,s,rfl⟩,q _ G H (Grow.refl gk) (.scl (by rw[this];exact .int _))⟩
 .cases e;cases rs with
 |cons r t=>cases t;obtain⟨a,xs,rfl,s,r⟩:=r.tup gk;have:=Paired.length r;exact .inl ⟨_,_,rfl,.inr ⟨xs,s,rfl⟩,q _ G H (Grow.refl gk) (.scl (by rw[this];exact .int _))⟩
 .cases e;cases rs with
 |cons r t=>cases t;obtain⟨a,xs,rfl,s,r⟩:=r.dic gk;have:=Paired.length r;exact .inr ⟨_,_,rfl,s,q _ G H (Grow.refl gk) (.scl (by rw[this];exact .int _))⟩
 .cases e
def dP(hg:Gl X "len")(hm:X.mg "len" = none)(ha:iy X g m (e::es) fl)(he:f_ (e::es) X.env=(false,eval e X.env)::f_ es X.env:=by rfl)(z:(backTo pos (f_ es X.env)).any (·.1)=false:=by rfl):SE X g m (.Call (.Name "len" p) (e::es) [] pos) (fC fl lenD):=ik M4 (o8 (gp.or P3 Rp) hg hm PySem.boot_len ha (by decide) (by decide) he z)
def ki:List D->Option D
|[.lst ds]=>some (.lst ds)
|[.tup ds]=>some (.lst ds)
|_=>none
def Ol{K:W.Frag}:Fd K (fun xs H Q=>∃p ys,xs=[.ref p]/\(cy K H p ys\/dy K H p ys)/\∀l,H l=none->Q (.ref l) (upd H l (.lst ys))) ki:=by
 intro G H vs ds d Q gk rs e q;have fin:∀{ys:List V}{zs:List D},cR K G ys zs->(∀(a:Addr)(G':GH)(H':Hp),Grow K G H G' H'->H a=none->Own K G' H' a (.lst zs)->Q (.ref a) H')->∀l,H l=none->Q (.ref l) (upd H l (.lst ys)):=fun r q l hl=>q l G _ (Grow.new gk hl _) hl ⟨gk.isN hl,.lst cQ r⟩;unfold ki at e;split at e
 .cases e;cases rs with
 |cons r t=>cases t;obtain⟨a,xs,rfl,s,r⟩:=r.lst gk;exact⟨a,xs,rfl,.inl s,fin r q⟩
 .cases e;cases rs with
 |cons r t=>cases t;obtain⟨a,xs,rfl,s,r⟩:=r.tup gk;exact⟨a,xs,rfl,.inr s,fin r q⟩
 .cases e
def l8(hg:Gl X "list")(hm:X.mg "list" = none)(ha:iy X g m (e::es) fl)(he:f_ (e::es) X.env=(false,eval e X.env)::f_ es X.env:=by rfl)(z:(backTo pos (f_ es X.env)).any (·.1)=false:=by rfl):SO X g m (.Call (.Name "list" p) (e::es) [] pos) (fC fl ki):=K1 Ol (mJ TF hg hm rfl ha (by decide) (by decide) he z)
def tupD:List D->Option D
|[.lst ds]=>some (.tup ds)
|[.tup ds]=>some (.tup ds)
|_=>none
def Nx{K:W.Frag}:lX K (fun xs H Q=>∃p ys,xs=[.ref p]/\((cy K H p ys/\∀l,H l=none->Q (.ref l) (upd H l (.tup ys)))\/(dy K H p ys/\Q (.ref p) H))) tupD:=by
 intro G H vs ds d Q gk rs e q;unfold tupD at e;split at e
 .cases e;cases rs with
 |cons r t=>cases t;obtain⟨a,xs,rfl,s,r⟩:=r.lst gk;exact⟨a,xs,rfl,.inl ⟨s,fun l hl=>q _ _ _ (Grow.newF gk hl (.tup (.inl cQ) r)) (.ref fW)⟩⟩
 .cases e;cases rs with
 |cons r t=>
   cases t;rcases r with r|⟨a,_,o⟩
   .obtain⟨a,xs,rfl,s,r'⟩:=r.tup gk;exact⟨a,xs,rfl,.inr ⟨s,q _ G H (Grow.refl gk) r⟩⟩
   .cases o.ob
 .cases e
def jl(hg:Gl X "tuple")(hm:X.mg "tuple" = none)(ha:iy X g m (e::es) fl)(he:f_ (e::es) X.env=(false,eval e X.env)::f_ es X.env:=by rfl)(z:(backTo pos (f_ es X.env)).any (·.1)=false:=by rfl):SE X g m (.Call (.Name "tuple" p) (e::es) [] pos) (fC fl tupD):=ik Nx (mJ T3 hg hm rfl ha (by decide) (by decide) he z)
def ixD:D->D->Option D
|.lst ds,.int i=>gR ds i
|.tup ds,.int i=>gR ds i
|.str z,.int i=>if z.length<=sizeLine then(gR z.cps.toList i).map fun c=>.str ⟨#[c]⟩else none
|_,_=>none
def Fh{K:W.Frag}{G:GH}{xs:List V}{ds:List D}{i:Int}{d:D}(r:cR K G xs ds)(h:gR ds i=some d):∃v,gR xs i=some v/\RG K G v d:=by unfold gR at h ⊢;rw[Paired.length r];cases e:gu ds.length i with
|none=>rw[e]at h;cases h
|some j=>rw[e]at h;exact Paired.get r h
def yY{K:W.Frag}:fH K (Ez K) ixD:=by
 intro G H v1 v2 d1 d2 d Q gk r1 r2 e q;unfold ixD at e;split at e
 .obtain⟨a,xs,rfl,s,r⟩:=r1.lst gk;obtain⟨v,ev,rv⟩:=Fh r e;exact .inl ⟨a,xs,_,v,rfl,r2.int gk,s,ev,q v G H (Grow.refl gk) rv⟩
 .obtain⟨a,xs,rfl,s,r⟩:=r1.tup gk;obtain⟨v,ev,rv⟩:=Fh r e;exact .inr (.inl ⟨a,xs,_,v,rfl,r2.int gk,s,ev,q v G H (Grow.refl gk) rv⟩)
 .split at e
  .rename_i z i hz;cases ec:gR z.cps.toList i with
  |none=>rw[ec]at e;cases e
  |some c=>rw[ec]at e;cases e;exact .inr (.inr ⟨z,i,c,r1.str gk,r2.int gk,hz,ec,q _ G H (Grow.refl gk) (.scl (.str _))⟩)
  .cases e
 .cases e
def dM{α:Type}(xs:List α)(lo hi:Option Int):List α:=(xs.drop (HT.sIx xs.length 0 lo)).take (HT.sIx xs.length xs.length hi-HT.sIx xs.length 0 lo)
def Fm{α β:Type}{F:α->β->Prop}{xs:List α}{ds:List β}(r:Paired F xs ds)(lo hi:Option Int):Paired F (dM xs lo hi) (dM ds lo hi):=by unfold dM;rw[Paired.length r];exact Paired.tk _ (Paired.dr _ r)
abbrev FP:=aL->Res (Option Int)
def tP(X:Cx)(g:GE)(m:List Md)(f:FP):TO:=fun σ H Q=>∃r G,SI X g m r G σ H/\fin (f r) (fun o=>∀G' H',Grow X.K G H G' H'->Q o H') (XW X σ G H)
def yQ(X:Cx)(g:GE)(m:List Md)(e:Option Expr)(f:FP):Prop:=PO X e (tP X g m f)
def PO.imp{X:Cx}{e:Option Expr}{t t':TO}(h:PO X e t)(i:∀σ H Q,t' σ H Q->t σ H Q):PO X e t':=fun pz s σ H Q I q=>h pz s σ H Q I (i σ H Q q)
def UR:D->Option Int
|.int i=>some i
|_=>none
def km(f:FE):FP:=fun r=>(f r).bind fun d=>(dw (UR d)).bind fun i=>.ok (some i)
def oy:yQ X g m none fun _=>.ok none:=PO.imp Pk fun σ H Q ⟨r,G,si,q⟩=>q G H (Grow.refl si.gok)
def oE(h:SB X g m e f):yQ X g m (some e) (km f):=by
 refine PO.imp (Pm h) fun σ H Q ⟨r,G,si,q⟩=>⟨r,G,si,cn (cw q) fun d q1 v G1 H1 w1 r1=>?_⟩
 obtain⟨i,e,q2⟩:=dQ (cw q1);cases d with
|int j=>cases e;exact⟨_,r1.int w1.ok,q2 G1 H1 w1⟩
|_=>cases e
def UO(d:D)(lo hi:Option Int):Option D:=match d with
|.tup ds=>if HT.sIx ds.length 0 lo=0/\HT.sIx ds.length ds.length hi=ds.length then none else some (.tup (dM ds lo hi))
|.lst ds=>some (.lst (dM ds lo hi))
|_=>none
end
inductive Out where
 |nx (r:aL)|rt (d:D)|bk (r:aL)|ct (r:aL)|exc (x:D) (r:aL)|stuck
abbrev FS:=aL->Out
def bO(G G':GH):Prop:=∀a d,G a=some d->G' a=some d
def bO.refl(G:GH):bO G G:=fun _ _ e=>e
def bO.trans{G G1 G2:GH}(a:bO G G1)(b:bO G1 G2):bO G G2:=fun x d e=>b x d (a x d e)
def forget(m:List Md)(r:aL):aL:=QaU (fun md o=>if md=Md.sh then o else none) m r
def eZ(m:List Md):List Md:=m.map fun _=>Md.sh
def qR{m:List Md}{r:aL}{i:Nat}{d:D}(h:(forget m r)[i]? = some (some d)):r[i]? = some (some d)/\m[i]? = some .sh:=by unfold forget at h;rw[QcG]at h;cases e1:m[i]? with
|none=>rw[e1]at h;cases h
|some md=>cases e2:r[i]? with
 |none=>rw[e1,e2]at h;cases h
 |some o=>
   rw[e1,e2]at h;have h':(if md=Md.sh then o else none)=some d:=E_ h;split at h'
   .rename_i hm;subst hm;rw[h'];exact⟨rfl,rfl⟩
   .cases h'
section
variable{st:L2.St}
def SI.forget(s:SI X g m r G st H):SI X g (eZ m) (forget m r) G st H where
 gok:=s.gok
 old:=s.old
 ge:=s.ge
 gf:=s.gf
 lm:=by rw[eZ,q_];exact s.lm
 lr:=by rw[DL.forget,QbP,s.lm,s.lr,Nat.min_self]
 sh:=fun i d h _=>s.sh i d (qR h).1 (qR h).2
 ow:=fun i d h hm=>by rw[eZ,x_,(qR h).2]at hm;cases hm
 bw:=fun i d h hm=>by rw[eZ,x_,(qR h).2]at hm;cases hm
 dis:=fun i j a d e _ h _ hm=>by rw[eZ,x_,(qR h).2]at hm;cases hm
 lk:=fun i o _ hm=>by rw[eZ,x_]at hm;cases q:m[i]? <;> rw[q]at hm <;> cases hm
def SI.set(s:SI X g m r G st H)(i:Nat){v:V}{d:D}(hv:RG X.K G v d):SI X g (m.set i .sh) (r.set i (some d)) G (st.set i (some v)) H where
 gok:=s.gok
 old:=s.old
 ge:=s.ge
 gf:=s.gf
 lm:=by simp[s.lm]
 lr:=by simp[s.lr]
 sh:=fun j e h hm=>by
  by_cases z:i=j
  .subst z;have hl:i<r.length:=by have:=(i_.mp h).1;simpa using this
   rw[j_ hl]at h;cases h;exact⟨v,by rw[j_ (by rw[<-s.lr];exact hl)],hv⟩
  .rw[b_ z]at h hm;rw[b_ z];exact s.sh j e h hm
 ow:=fun j e h hm=>by
  by_cases z:i=j
  .subst z;have hl:i<m.length:=by have:=(i_.mp hm).1;simpa using this
   rw[j_ hl]at hm;cases hm
  .rw[b_ z]at h hm;rw[b_ z];exact s.ow j e h hm
 bw:=fun j e h hm=>by
  by_cases z:i=j
  .subst z;have hl:i<m.length:=by have:=(i_.mp hm).1;simpa using this
   rw[j_ hl]at hm;cases hm
  .rw[b_ z]at h hm;rw[b_ z];exact s.bw j e h hm
 dis:=fun j k a d1 d2 hjk h1 h2 hm hm' q1 q2=>by
  have z:i≠j:=by
   rintro rfl
   have hl:i<m.length:=by have:=(i_.mp hm).1;simpa using this
   rw[j_ hl]at hm;cases hm
  have hik:i≠k:=by
   rintro rfl
   have hl:i<m.length:=by have:=(i_.mp h2).1;rw[ZO,s.lr,<-s.lm]at this;exact this
   rw[j_ hl]at hm';cases hm'
  rw[b_ z]at h1 hm q1;rw[b_ hik]at h2 hm' q2;exact s.dis j k a d1 d2 hjk h1 h2 hm hm' q1 q2
 lk:=fun j o hj hm=>by
  have z:i≠j:=by
   rintro rfl
   have hl:i<m.length:=by have:=(i_.mp hm).1;simpa using this
   rw[j_ hl]at hm;cases hm
  rw[b_ z]at hm;have:=s.lk j o hj hm;exact⟨by rw[b_ z];exact this.1,fun d h=>this.2 d (by rw[b_ z]at h;exact h)⟩
def SI.setO(s:SI X g m r G st H)(i:Nat){a:Addr}{d:D}(ho:Own X.K G H a d)(h0:g.h0 a=none)(hx:∀(j:Nat)(b:Addr)(e:D),r[j]? = some (some e)->m[j]? = some Md.ow->st[j]? = some (some (V.ref b))->b≠a):SI X g (m.set i .ow) (r.set i (some d)) G (st.set i (some (V.ref a))) H where
 gok:=s.gok
 old:=s.old
 ge:=s.ge
 gf:=s.gf
 lm:=by simp[s.lm]
 lr:=by simp[s.lr]
 sh:=fun j e h hm=>by
  by_cases z:i=j
  .subst z;have hl:i<m.length:=by have:=(i_.mp hm).1;simpa using this
   rw[j_ hl]at hm;cases hm
  .rw[b_ z]at h hm;rw[b_ z];exact s.sh j e h hm
 ow:=fun j e h hm=>by
  by_cases z:i=j
  .subst z;have hl:i<r.length:=by have:=(i_.mp h).1;simpa using this
   rw[j_ hl]at h;cases h;exact⟨a,by rw[j_ (by rw[<-s.lr];exact hl)],ho,h0⟩
  .rw[b_ z]at h hm;rw[b_ z];exact s.ow j e h hm
 bw:=fun j e h hm=>by
  by_cases z:i=j
  .subst z;have hl:i<m.length:=by have:=(i_.mp hm).1;simpa using this
   rw[j_ hl]at hm;cases hm
  .rw[b_ z]at h hm;rw[b_ z];exact s.bw j e h hm
 dis:=fun j k b d1 d2 hjk h1 h2 hm hm' q1 q2=>by
  by_cases z:i=j
  .subst z;rw[b_ hjk]at h2 hm' q2;have hl:i<st.length:=by have:=(i_.mp q1).1;simpa using this
   rw[j_ hl]at q1;have e:a=b:=by injection q1 with q1;injection q1 with q1;injection q1
   exact hx k b d2 h2 hm' q2 e.symm
  .by_cases hik:i=k
   .subst hik;rw[b_ z]at h1 hm q1;have hl:i<st.length:=by have:=(i_.mp q2).1;simpa using this
    rw[j_ hl]at q2;have e:a=b:=by injection q2 with q2;injection q2 with q2;injection q2
    exact hx j b d1 h1 hm q1 e.symm
   .rw[b_ z]at h1 hm q1;rw[b_ hik]at h2 hm' q2;exact s.dis j k b d1 d2 hjk h1 h2 hm hm' q1 q2
 lk:=fun j o hj hm=>by
  have z:i≠j:=by
   rintro rfl
   have hl:i<m.length:=by have:=(i_.mp hm).1;simpa using this
   rw[j_ hl]at hm;cases hm
  rw[b_ z]at hm;have:=s.lk j o hj hm;exact⟨by rw[b_ z];exact this.1,fun d h=>this.2 d (by rw[b_ z]at h;exact h)⟩
def SI.other(s:SI X g m r G st H){p:Addr}(hp:G p=none)(h0:g.h0 p=none)(hm:∀(i:Nat),m[i]?≠some Md.ow)(o:HO):SI X g m r G st (upd H p o) where
 gok:=fun b e h=>(s.gok b e h).mono (fun _ _ z=>z) fun o' q=>by rw[bX (by rintro rfl;rw[hp]at h;cases h)];exact q
 old:=fun b o' h=>by rw[bX (by rintro rfl;rw[h0]at h;cases h)];exact s.old b o' h
 ge:=s.ge
 gf:=s.gf
 lm:=s.lm
 lr:=s.lr
 sh:=s.sh
 ow:=fun i d _ h=>absurd h (hm i)
 bw:=fun i d h1 h2=>by
  obtain⟨v,h3,h4⟩:=s.bw i d h1 h2;refine⟨v,h3,?_⟩;rcases h4 with h4|⟨a,rfl,h4,h5⟩
  .exact .inl h4
  .have ha:a≠p:=by rintro rfl;exact h5 h0
   exact .inr ⟨a,rfl,⟨h4.un,h4.ob.mono (fun _ _ z=>z) fun o' z=>by rw[bX ha];exact z⟩,h5⟩
 dis:=fun i j a d e _ _ _ h=>absurd h (hm i)
 lk:=s.lk
def SI.less(s:SI X g m r G st H){r':aL}(hl:r'.length=r.length)(h:∀(i:Nat) d,r'[i]? = some (some d)->r[i]? = some (some d)):SI X g m r' G st H:=⟨s.gok,s.old,s.ge,s.gf,s.lm,hl.trans s.lr,fun i d a b=>s.sh i d (h i d a) b,fun i d a b=>s.ow i d (h i d a) b,fun i d a b=>s.bw i d (h i d a) b,fun i j a d e n p q x y=>s.dis i j a d e n (h i d p) (h j e q) x y,fun i o hi hm=>by have:=s.lk i o hi hm;exact⟨this.1,fun d hd=>this.2 d (h i d hd)⟩⟩
def SI.held(s:SI X g m r G st H){j:Nat}{b:Addr}{e:D}(h:r[j]? = some (some e))(hm:m[j]? = some .ow)(hs:st[j]? = some (some (V.ref b))):H b≠none:=by
 obtain⟨a,h1,h2,_⟩:=s.ow j e h hm;rw[hs]at h1;injection h1 with h1;injection h1 with h1;injection h1 with h1
 rw[h1];exact h2.ob.isS
def SI.new(s:SI X g m r G st H){a:Addr}(hn:H a=none):g.h0 a=none:=by cases q:g.h0 a with
|none=>rfl
|some o=>rw[s.old _ _ q]at hn;cases hn
def SI.setN(s:SI X g m r G st H){G':GH}{H':Hp}(w:Grow X.K G H G' H')(i:Nat){a:Addr}{d:D}(hn:H a=none)(ho:Own X.K G' H' a d):SI X g (m.set i .ow) (r.set i (some d)) G' (st.set i (some (V.ref a))) H':=by
 refine(s.grow w).setO i ho ?_ fun j b e h1 h2 h3=>?_
 .cases q:g.h0 a with
 |none=>rfl
 |some o=>rw[s.old _ _ q]at hn;cases hn
 .rintro rfl
  exact s.held h1 h2 h3 hn
def SI.mut(s:SI X g m r G st H){i:Nat}{d:D}(hm:m[i]? = some .ow)(hd:r[i]? = some (some d)):∃a,st[i]? = some (some (V.ref a))/\Own X.K G H a d/\∀(o':HO)(d':D),OwnO X.K G (upd H a o') a d'->SI X g m (r.set i (some d')) G st (upd H a o'):=by
 obtain⟨a,h1,h2,h3⟩:=s.ow i d hd hm;have hl:i<r.length:=(i_.mp hd).1;refine⟨a,h1,h2,fun o' d' ob=>?_⟩;have Z:∀(j:Nat)(b:Addr)(e:D),j≠i->r[j]? = some (some e)->m[j]? = some .ow->st[j]? = some (some (V.ref b))->b≠a:=fun j b e hj q1 q2 q3 z=>by subst z;exact s.dis i j b d e (ZP hj) hd q1 hm q2 h1 q3
 refine⟨fun b e h=>?_,fun b o h=>?_,s.ge,s.gf,s.lm,by simp[s.lr],?_,?_,?_,?_,fun j o hj hm'=>?_⟩
 .have hb:b≠a:=by rintro rfl;rw[h2.un]at h;cases h
  exact(s.gok b e h).mono (fun _ _ z=>z) fun o q=>by rw[bX hb];exact q
 .have hb:b≠a:=by rintro rfl;rw[h3]at h;cases h
  rw[bX hb];exact s.old b o h
 .intro j e h hm';have U:i≠j:=by rintro rfl;rw[hm]at hm';cases hm'
  rw[b_ U]at h;exact s.sh j e h hm'
 .intro j e h hm';by_cases U:i=j
  .subst U;rw[j_ hl]at h;cases h;exact⟨a,h1,⟨h2.un,ob⟩,h3⟩
  .rw[b_ U]at h;obtain⟨b,q1,q2,q3⟩:=s.ow j e h hm';have hb:=Z j b e (ZP U) h hm' q1;exact⟨b,q1,⟨q2.un,q2.ob.mono (fun _ _ z=>z) fun o z=>by rw[bX hb];exact z⟩,q3⟩
 .intro j e h hm';have U:i≠j:=by rintro rfl;rw[hm]at hm';cases hm'
  rw[b_ U]at h;obtain⟨v,q1,q2⟩:=s.bw j e h hm';refine⟨v,q1,?_⟩;rcases q2 with q2|⟨b,rfl,q2,q3⟩
  .exact .inl q2
  .have hb:b≠a:=by rintro rfl;exact q3 h3
   exact .inr ⟨b,rfl,⟨q2.un,q2.ob.mono (fun _ _ z=>z) fun o z=>by rw[bX hb];exact z⟩,q3⟩
 .have bound:∀(j:Nat) e,(r.set i (some d'))[j]? = some (some e)->∃e',r[j]? = some (some e'):=fun j e h=>by
   by_cases U:i=j
   .subst U;exact⟨d,hd⟩
   .rw[b_ U]at h;exact⟨e,h⟩
  intro j k b d1 d2 hjk q1 q2 p1 p2 z1 z2;obtain⟨e1,q1⟩:=bound j d1 q1;obtain⟨e2,q2⟩:=bound k d2 q2;exact s.dis j k b e1 e2 hjk q1 q2 p1 p2 z1 z2
 .have U:i≠j:=by rintro rfl;rw[hm]at hm';cases hm'
  have:=s.lk j o hj hm';exact⟨this.1,fun Y h=>this.2 Y (by rw[b_ U]at h;exact h)⟩
end
def RV(ro:Bool)(K:W.Frag)(H0:Hp)(G:GH)(H:Hp)(v:V)(d:D):Prop:=match ro with
|false=>RG K G v d
|true=>(∃a,v=.ref a/\H0 a=none/\Own K G H a d)\/(d=.non/\v=.non)
def cV(X:Cx)(g:GE)(ro:Bool)(m' mb:List Md)(G:GH)(D:Ends):Out->Prop
|.nx r'=>∀σ' G' H',bO G G'->SI X g m' r' G' σ' H'->D.nx σ' H'
|.rt d=>∀v G' H',Grow X.K g.gh g.h0 G' H'->RV ro X.K g.h0 G' H' v d->D.rt v H'
|.bk r'=>∀σ' G' H',bO G G'->SI X g mb r' G' σ' H'->D.bk σ' H'
|.ct r'=>∀σ' G' H',bO G G'->SI X g mb r' G' σ' H'->D.ct σ' H'
|.exc x r'=>∀pz e s' σ' G' H',bO G G'->SI X g (eZ m') r' G' σ' H'->Inv X pz σ' H' s'->Kz X σ' G' H' e x s'->X.xe e s'
|.stuck=>False
def tS(X:Cx)(g:GE)(ro:Bool)(m m' mb:List Md)(f:FS):TS:=fun D σ H=>∃r G,SI X g m r G σ H/\cV X g ro m' mb G D (f r)
def SS(X:Cx)(g:GE)(ro:Bool)(mb m:List Md)(st:Stmt)(f:FS)(m':List Md):Prop:=m'.length=m.length/\PS X st (tS X g ro m m' mb f)
def fU(X:Cx)(g:GE)(ro:Bool)(mb m:List Md)(st:List Stmt)(f:FS)(m':List Md):Prop:=m'.length=m.length/\dq X st (tS X g ro m m' mb f)
def Br{m m':List Md}(h:m'.length=m.length):eZ m'=eZ m:=by unfold eZ;rw[QbK,QbK,h]
def cV.x{X:Cx}{g:GE}{ro:Bool}{m m' mb:List Md}{r:aL}{G:GH}{D:Ends}{σ:L2.St}{H:Hp}{x:DL.D}(h:cV X g ro m' mb G D (.exc x (forget m r)))(si:SI X g m r G σ H)(hl:m'.length=m.length):XW X σ G H x:=fun pz e s' G' H' w I ex=>h pz e s' σ G' H' w.ge (by rw[Br hl];exact(si.grow w).forget) I ex
variable{ro:Bool}{m' m1 mb:List Md}{tg:Expr}{pos':Pos}{sts:List Stmt}{s1:FS}
section
variable{fb:FE}{st:Stmt}{sts':List Stmt}{s2:FS}
def cV.gle{G G1:GH}{D:Ends}{o:Out}(h:cV X g ro m' mb G D o)(w:bO G G1):cV X g ro m' mb G1 D o:=by cases o with
|nx r'=>exact fun σ' G' H' q si=>h σ' G' H' (w.trans q) si
|rt d=>exact h
|bk r'=>exact fun σ' G' H' q si=>h σ' G' H' (w.trans q) si
|ct r'=>exact fun σ' G' H' q si=>h σ' G' H' (w.trans q) si
|exc x r'=>exact fun pz e s' σ' G' H' q=>h pz e s' σ' G' H' (w.trans q)
|stuck=>exact h
def seqF(s1 s2:FS):FS:=fun r=>match s1 r with
|.nx r'=>s2 r'
|o=>o
def cG:FS:=fun r=>.nx r
def aQ:fU X g ro mb m [] cG m:=⟨rfl,dq.imp AQ fun D σ H ⟨r,G,si,q⟩=>q σ G H (bO.refl G) si⟩
def aM(h1:SS X g ro mb m st s1 m1)(h2:fU X g ro mb m1 sts s2 m'):fU X g ro mb m (st::sts) (seqF s1 s2) m':=by refine⟨h2.1.trans h1.1,dq.imp (o9 h1.2 h2.2) fun D σ H ⟨r,G,si,q⟩=>⟨r,G,si,?_⟩⟩;unfold seqF at q;cases e:s1 r with
|nx r'=>rw[e]at q;exact fun σ' G' H' w si'=>⟨r',G',si',cV.gle q w⟩
|rt d=>rw[e]at q;exact q
|bk r'=>rw[e]at q;exact q
|ct r'=>rw[e]at q;exact q
|exc x r'=>rw[e]at q;exact fun pz e s' σ' G' H' w si'=>q pz e s' σ' G' H' w (by rw[Br h2.1];exact si')
|stuck=>rw[e]at q;exact q
def Pz:SS X g ro mb m st (fun _=>.stuck) m:=⟨rfl,PS.imp Qa fun D σ H ⟨r,G,si,q⟩=>q⟩
def vN:fU X g ro mb m sts (fun _=>.stuck) m:=⟨rfl,dq.imp RE fun D σ H ⟨r,G,si,q⟩=>q⟩
def FG(i:Nat)(hi:m[i]? = some .ow)(h:SS X g ro mb (m.set i .sh) st s1 m'):SS X g ro mb m st s1 m':=by
 refine⟨h.1.trans (by simp),fun pz s σ H D I ⟨r,G,si,q⟩=>?_⟩;rcases si.frz i hi with⟨G',le,si'⟩|⟨a,z⟩
 .exact h.2 pz s σ H D I ⟨r,G',si',cV.gle q le⟩
 .obtain⟨ob,I2⟩:=Inv.fast I a;obtain⟨G',le,si'⟩:=z ob;exact h.2 pz s σ _ D I2 ⟨r,G',si',cV.gle q le⟩
def onE{α:Type}(m:List Md)(r:aL)(x:Res α)(k:α->Out):Out:=match x with
|.ok a=>k a
|.exc e=>.exc e (forget m r)
|.stuck=>.stuck
@[simp] def onE_ok{α:Type}(m:List Md)(r:aL)(a:α)(k:α->Out):onE m r (.ok a) k=k a:=rfl
def gE{α:Type}{x:Res α}{k:α->Out}{r:aL}{G:GH}{D:Ends}{σ:L2.St}{H:Hp}(si:SI X g m r G σ H)(hl:m'.length=m.length)(h:cV X g ro m' mb G D (onE m r x k)):fin x (fun a=>cV X g ro m' mb G D (k a)) (XW X σ G H):=by cases x with
|ok a=>exact h
|exc e=>exact cV.x h si hl
|stuck=>exact h
def cU(m:List Md)(i:Nat)(f:FE):FS:=fun r=>onE m r (f r) fun d=>.nx (r.set i (some d))
def K4(i:Nat){x:Str}(hN:X.N.Nodup)(hi:X.N[i]? = some x)(hx:iN X.env.scope x)(he:SE X g m e f)(hs:Qaw e (some (.Name x pos')) pos.line X.env=pure false:=by rfl)(hf:X.fn x=true\/X.env.scope.names.lookup x=some .local:=by first|exact .inl rfl|exact .inr rfl|assumption):SS X g ro mb m (.Assign [.Name x pos'] e pos) (cU m i f) (m.set i .sh):=by
 have hl:(m.set i .sh).length=m.length:=by simp
 refine⟨hl,PS.imp (uJ hN hi hx he hs hf) fun D σ H ⟨r,G,si,q⟩=>⟨r,G,si,?_⟩⟩;exact cn (gE si hl q) fun d q v G' H' w rv=>q _ G' H' w.ge ((si.grow w).set i rv)
def ji(i:Nat){x:Str}(hN:X.N.Nodup)(hi:X.N[i]? = some x)(hx:iN X.env.scope x)(he:SO X g m e f)(hs:Qaw e (some (.Name x pos')) pos.line X.env=pure false:=by rfl)(hf:X.fn x=true\/X.env.scope.names.lookup x=some .local:=by first|exact .inl rfl|exact .inr rfl|assumption):SS X g ro mb m (.Assign [.Name x pos'] e pos) (cU m i f) (m.set i .ow):=by
 have hl:(m.set i .ow).length=m.length:=by simp
 refine⟨hl,PS.imp (uJ hN hi hx he hs hf) fun D σ H ⟨r,G,si,q⟩=>⟨r,G,si,?_⟩⟩;exact cn (gE si hl q) fun d q a G' H' w hn ho=>q _ G' H' w.ge (si.setN w i hn ho)
def retF(m:List Md)(f:FE):FS:=fun r=>onE m r (f r) fun d=>.rt d
def bQ(he:SE X g m e f):SS X g false mb m (.Return (some e) pos) (retF m f) m:=⟨rfl,PS.imp (Aq he) fun D σ H ⟨r,G,si,q⟩=>⟨r,G,si,cn (gE si rfl q) fun d q v G' H' w rv=>q v G' H' (si.grow w).grown rv⟩⟩
def N0(i:Nat){x:Str}(hm:m[i]? = some .ow)(hN:X.N[i]? = some x)(hv:gA X.env.scope x)(hd:(x==("__debug__" : Str))=false:=by decide)(z:(x==("__classdict__" : Str))=false:=by decide):SS X g true mb m (.Return (some (.Name x pos')) pos) (retF m fun r=>c8 r i) m:=by refine⟨rfl,PS.imp (Aq (gP hN hv hd z)) fun D σ H ⟨r,G,si,q⟩=>?_⟩;obtain⟨d,e,q⟩:=vJ (gE si rfl q);obtain⟨a,h1,h2,h3⟩:=si.ow i d e hm;exact⟨_,h1,q _ G H si.grown (.inl ⟨a,rfl,h3,h2⟩)⟩
def gy(m:List Md)(p:FQ)(s1 s2:FS):FS:=fun r=>onE m r (p r) fun c=>if c=true then s1 r else s2 r
def cj(hc:SQ X g m c p)(h1:fU X g ro mb m sts s1 m')(h2:fU X g ro mb m sts' s2 m'):SS X g ro mb m (.If c sts sts' pos) (gy m p s1 s2) m':=by refine⟨h1.1,PS.imp (KR hc h1.2 h2.2) fun D σ H ⟨r,G,si,q⟩=>⟨r,G,si,cn (gE si h1.1 q) fun c q G' H' w=>?_⟩⟩;cases c with
|true=>rw[if_pos rfl]at q ⊢;exact⟨r,G',si.grow w,cV.gle q w.ge⟩
|false=>rw[if_neg k_]at q ⊢;exact⟨r,G',si.grow w,cV.gle q w.ge⟩
end
abbrev FT:=D->aL->Option aL
abbrev j9:=List D->aL->Option aL
def tG(X:Cx)(g:GE)(m m':List Md)(ft:FT):TG:=fun v σ H Q=>∃r G d,SI X g m r G σ H/\RG X.K G v d/\∃r',ft d r=some r'/\∀σ',SI X g m' r' G σ' H->Q σ' H
def UK(X:Cx)(g:GE)(m m':List Md)(ft:j9):j7:=fun vs σ H Q=>∃r G ds,SI X g m r G σ H/\cR X.K G vs ds/\∃r',ft ds r=some r'/\∀σ',SI X g m' r' G σ' H->Q σ' H
def PG.imp{X:Cx}{e:Expr}{t t':TG}(h:PG X e t)(i:∀v σ H Q,t' v σ H Q->t v σ H Q):PG X e t':=fun pz s σ H v u Q I r q=>h pz s σ H v u Q I r (i v σ H Q q)
def jS.imp{X:Cx}{e:List Expr}{t t':j7}(h:jS X e t)(i:∀v σ H Q,t' v σ H Q->t v σ H Q):jS X e t':=fun pz s σ H v u Q I r q=>h pz s σ H v u Q I r (i v σ H Q q)
def SG(X:Cx)(g:GE)(m:List Md)(tg:Expr)(ft:FT)(m':List Md):Prop:=m'.length=m.length/\PG X tg (tG X g m m' ft)
structure SGs(X:Cx)(g:GE)(m:List Md)(ts:List Expr)(n:Nat)(ft:j9)(m':List Md):Prop where
 ml:m'.length=m.length
 ln:∀ds r r',ft ds r=some r'->ds.length=n
 pg:jS X ts (UK X g m m' ft)
def bY(i:Nat):FT:=fun d r=>some (r.set i (some d))
def iZ(ft:j9):FT:=fun d r=>match d with
|.tup ds=>ft ds r
|.lst ds=>ft ds r
|_=>none
def iQ:j9:=fun ds r=>match ds with
|[]=>some r
|_=>none
def fK(ft:FT)(fts:j9):j9:=fun ds r=>match ds with
|[]=>none
|d::ds=>(ft d r).bind fun r'=>fts ds r'
variable{ft:FT}
section
variable{ts:List Expr}{fts:j9}{n:Nat}
def L1(i:Nat){x:Str}(hN:X.N.Nodup)(hi:X.N[i]? = some x)(hx:iN X.env.scope x)(hf:X.fn x=true\/X.env.scope.names.lookup x=some .local:=by first|exact .inl rfl|exact .inr rfl|assumption):SG X g m (.Name x pos) (bY i) (m.set i .sh):=⟨by simp,PG.imp (Hl hN hi hx hf) fun v σ H Q ⟨r,G,d,si,rv,r',e,k⟩=>by cases e;exact k _ (si.set i rv)⟩
def kb:SGs X g m [] 0 iQ m:=by
 refine⟨rfl,fun ds r r' e=>?_,jS.imp Hm fun v σ H Q ⟨r,G,ds,si,rv,r',e,k⟩=>?_⟩
 .cases ds with
 |nil=>rfl
 |cons _ _=>cases e
 .cases rv with
 |nil=>cases e;exact⟨rfl,k σ si⟩
 |cons _ _=>cases e
def gO(h1:SG X g m tg ft m1)(h2:SGs X g m1 ts n fts m')(hs:(Zi (tg::ts) X.env).map (·.2)=Qax tg X.env::(Zi ts X.env).map (·.2):=by rfl):SGs X g m (tg::ts) (n+1) (fK ft fts) m':=by
 refine⟨h2.ml.trans h1.1,fun ds r r' e=>?_,jS.imp (Bo h1.2 h2.pg hs) fun v σ H Q ⟨r,G,ds,si,rv,r',e,k⟩=>?_⟩
 .cases ds with
 |nil=>cases e
 |cons d ds=>have e':((ft d r).bind fun r'=>fts ds r')=some r':=e;cases q:ft d r with
  |none=>rw[q]at e';cases e'
  |some r1=>rw[q]at e';have:=h2.ln ds r1 r' e';simp[this]
 .cases rv with
 |nil=>cases e
 |@cons v0 d vs ds rv rs=>have e':((ft d r).bind fun r'=>fts ds r')=some r':=e;cases q:ft d r with
  |none=>rw[q]at e';cases e'
  |some r1=>rw[q]at e';exact⟨_,_,rfl,r,G,d,si,rv,r1,q,fun σ' si'=>⟨r1,G,ds,si',rs,r',e',k⟩⟩
def MK{k:Nat}{t:j7}(hc:X.calm=true)(h:jS X ts t)(hn:(Zi ts X.env).length=n)(z:(Zi ts X.env).findIdx? (·.1)=none):PG X (.Tuple ts k pos) (fun v σ H Q=>∃a xs,v=.ref a/\cy X.K H a xs/\xs.length=n/\t xs σ H Q):=by intro pz s σ H v u Q I r hw;obtain⟨a,xs,e1,hq,hl,hw⟩:=hw;subst e1;cases r;obtain⟨its,rv,⟨o,nn,l1,l2,l3,l4⟩,hz⟩:=I.list hq;rw[PyProof.Rows.assign_Tuple];refine a_ (QaH ?_);unfold unpack;rw[z,show(Zi ts X.env).length=its.toArray.size by simp[hn,<-hl,rv.length]];refine a_ (ZJ (W.kun_itemsOf (I.ok.hd hc) ⟨o,l1,l2,nn,l4⟩ fun h' hx=>?_));have I1:Inv X pz σ H { s with heap:=h' }:=I.kept (t':=s.toks) fun b o e=>hx b o (G_ (z_ e)) e;exact h pz _ σ H xs _ Q I1 (by simpa using rv) hw
def PG.or{e:Expr}{t t':TG}(h:PG X e t)(h':PG X e t'):PG X e (fun v σ H Q=>t v σ H Q\/t' v σ H Q):=fun pz s σ H v u Q I r q=>q.elim (h pz s σ H v u Q I r) (h' pz s σ H v u Q I r)
def ke{k:Nat}(hc:X.calm=true)(h:SGs X g m ts n fts m')(hn:(Zi ts X.env).length=n:=by rfl)(z:(Zi ts X.env).findIdx? (·.1)=none:=by rfl):SG X g m (.Tuple ts k pos) (iZ fts) m':=by refine⟨h.ml,PG.imp (PG.or (Gg hc h.pg hn z) (MK hc h.pg hn z)) fun v σ H Q ⟨r,G,d,si,rv,r',e,k⟩=>?_⟩;cases d with
|tup ds=>obtain⟨a,xs,rfl,s,rs⟩:=rv.tup si.gok;exact .inl ⟨a,xs,rfl,s,(Paired.length rs).trans (h.ln ds r r' e),r,G,ds,si,rs,r',e,k⟩
|lst ds=>obtain⟨a,xs,rfl,s,rs⟩:=rv.lst si.gok;exact .inr ⟨a,xs,rfl,s,(Paired.length rs).trans (h.ln ds r r' e),r,G,ds,si,rs,r',e,k⟩
|_=>cases e
end
structure Yields(K:W.Frag)(J:It)(ds:List D)(G0:GH):Prop where
 go:∀G H (i:Nat),bO G0 G->bW K G H->i<ds.length->J.go i H
 yld:∀G H (i:Nat) x H' d,bO G0 G->bW K G H->J.yld i H x H'->ds[i]? = some d->∃G',Grow K G H G' H'/\RG K G' x d
 stop:∀G H,bO G0 G->bW K G H->J.stop ds.length H
abbrev FI:=aL->Res (List D)
def tI(X:Cx)(g:GE)(m:List Md)(f:FI):TI:=fun σ H R=>∃r G,SI X g m r G σ H/\fin (f r) (fun ds=>∀J G' H',Grow X.K G H G' H'->Yields X.K J ds G'->R J H') (XW X σ G H)
def iw(X:Cx)(g:GE)(m:List Md)(tg iter:Expr)(f:FI):Prop:=PI X tg iter (tI X g m f)
def PI.imp{X:Cx}{tg e:Expr}{t t':TI}(h:PI X tg e t)(i:∀σ H Q,t' σ H Q->t σ H Q):PI X tg e t':=fun pz s σ H R I q=>h pz s σ H R I (i σ H R q)
def Bf{K:W.Frag}{a:Addr}{ds:List D}{G0:GH}(h0:RG K G0 (.ref a) (.lst ds)):Yields K (pL K a) ds G0:=by
 have at_:∀G H,bO G0 G->bW K G H->∃xs,cy K H a xs/\cR K G xs ds:=fun G H w gk=>by obtain⟨b,xs,e,s,r⟩:=(h0.mono w).lst gk;cases e;exact⟨xs,s,r⟩
 refine⟨fun G H i w gk hi=>?_,fun G H i x H' d w gk y e=>?_,fun G H w gk=>?_⟩
 .obtain⟨xs,s,r⟩:=at_ G H w gk;have hl:=Paired.length r;exact⟨xs,xs[i],s,o_ (by omega)⟩
 .obtain⟨xs,s,r⟩:=at_ G H w gk;obtain⟨rfl,y⟩:=y;obtain⟨v,e1,rv⟩:=Paired.get r e;have:=y xs s;rw[e1]at this;cases this;exact⟨G,Grow.refl gk,rv⟩
 .obtain⟨xs,s,r⟩:=at_ G H w gk;exact⟨xs,s,Qbj (Paired.length r)⟩
def AA{K:W.Frag}{a:Addr}{ds:List D}{G0:GH}(h0:RG K G0 (.ref a) (.tup ds)):Yields K (EW K a) ds G0:=by
 have at_:∀G H,bO G0 G->bW K G H->∃xs,dy K H a xs/\cR K G xs ds:=fun G H w gk=>by obtain⟨b,xs,e,s,r⟩:=(h0.mono w).tup gk;cases e;exact⟨xs,s,r⟩
 refine⟨fun G H i w gk hi=>?_,fun G H i x H' d w gk y e=>?_,fun G H w gk=>?_⟩
 .obtain⟨xs,s,r⟩:=at_ G H w gk;have hl:=Paired.length r;exact⟨xs,xs[i],s,o_ (by omega)⟩
 .obtain⟨xs,s,r⟩:=at_ G H w gk;obtain⟨rfl,y⟩:=y;obtain⟨v,e1,rv⟩:=Paired.get r e;have:=y xs s;rw[e1]at this;cases this;exact⟨G,Grow.refl gk,rv⟩
 .obtain⟨xs,s,r⟩:=at_ G H w gk;exact⟨xs,s,Qbj (Paired.length r)⟩
def eG(lo:Int)(n:Nat):List D:=(g_ n).map fun(i:Nat)=>D.int (lo+(i:Int))
def NG{K:W.Frag}{lo:Int}{n:Nat}{G0:GH}:Yields K (yS lo n) (eG lo n) G0:=by
 have hl:(eG lo n).length=n:=by simp[eG]
 refine⟨fun G H i w gk hi=>(by rw[hl]at hi;exact hi),fun G H i x H' d w gk y e=>?_,fun G H w gk=>(by rw[hl];exact y_ _)⟩;obtain⟨rfl,rfl⟩:=y;have hi:i<n:=by have:=(i_.mp e).1;rw[hl]at this;exact this
 unfold eG at e;rw[x_,Zx hi]at e;cases e;exact⟨G,Grow.refl gk,.scl (.int _)⟩
def cZ:D->Option (List D)
|.lst ds=>some ds
|.tup ds=>some ds
|_=>none
variable{iter:Expr}
section
variable{fb:FE}
def bS(k:D->Option (List D))(f:FE):FI:=fun r=>(f r).bind fun d=>dw (k d)
def An{l:Expr}{tl:TE}(hl:PE X l tl):PI X tg l (fun σ H R=>tl σ H fun x H1=>(∃a,x=.ref a/\(∃xs,cy X.K H1 a xs)/\R (pL X.K a) H1)\/∃a,x=.ref a/\(∃xs,dy X.K H1 a xs)/\R (EW X.K a) H1):=by
 intro pz s σ H R I h;refine bL (hl pz s σ H _ I h) fun v s1 ⟨x,H1,I1,r1,q1⟩=>?_;rcases q1 with⟨a,e,⟨xs,hq⟩,q⟩|⟨a,e,⟨xs,hq⟩,q⟩
 .subst e;cases r1;obtain⟨its,rv,p,hz⟩:=I1.list hq;refine Qbi p.isList ?_;refine⟨s1.heap.objs.size,[s1.heap.objs.size],_,_,H1,rfl,I1.kept (t':=s1.toks) fun b o e=>c_ _ e,IW a _,⟨_,t_ _ rfl,rfl,rfl⟩,fun b hb=>?_,q⟩;have e:b=s1.heap.objs.size:=by simpa using hb
  subst e;exact I1.fpOk (y_ _) (I1.hok.fresh (y_ _))
 .subst e;cases r1;obtain⟨its,rv,p,hz⟩:=I1.tuple hq;refine QaC (show s1.heap.IsTuple a its.toArray from p) ?_;refine⟨s1.heap.objs.size,[s1.heap.objs.size],_,_,H1,rfl,I1.kept (t':=s1.toks) fun b o e=>c_ _ e,SN a _,⟨_,t_ _ rfl,rfl,rfl⟩,fun b hb=>?_,q⟩;have e:b=s1.heap.objs.size:=by simpa using hb
  subst e;exact I1.fpOk (y_ _) (I1.hok.fresh (y_ _))
def Fa(h:SE X g m e f):iw X g m tg e (bS cZ f):=by
 refine PI.imp (An h) fun σ H R ⟨r,G,si,q⟩=>⟨r,G,si,cn (cw q) fun d q v G' H' w rv=>?_⟩
 obtain⟨ds,e,q⟩:=dQ q;cases d with
|lst ds'=>cases e;obtain⟨a,xs,rfl,s,rs⟩:=rv.lst w.ok;exact .inl ⟨a,rfl,⟨xs,s⟩,q _ G' H' w (Bf rv)⟩
|tup ds'=>cases e;obtain⟨a,xs,rfl,s,rs⟩:=rv.tup w.ok;exact .inr ⟨a,rfl,⟨xs,s⟩,q _ G' H' w (AA rv)⟩
|_=>cases e
structure YieldsC(K:W.Frag)(J:It)(ds:List D)(G0:GH)(H0:Hp):Prop where
 go:∀G H (i:Nat),Grow K G0 H0 G H->i<ds.length->J.go i H
 yld:∀G H (i:Nat) x H' d,Grow K G0 H0 G H->J.yld i H x H'->ds[i]? = some d->∃G',Grow K G H G' H'/\RG K G' x d
 stop:∀G H,Grow K G0 H0 G H->J.stop ds.length H
def Yields.toC{K:W.Frag}{J:It}{ds:List D}{G0:GH}{H0:Hp}(y:Yields K J ds G0):YieldsC K J ds G0 H0:=⟨fun G H i w hi=>y.go G H i w.ge w.ok hi,fun G H i x H' d w q e=>y.yld G H i x H' d w.ge w.ok q e,fun G H w=>y.stop G H w.ge w.ok⟩
def UI(X:Cx)(g:GE)(m:List Md)(f:FI):TI:=fun σ H R=>∃r G,SI X g m r G σ H/\fin (f r) (fun ds=>∀J G' H',Grow X.K G H G' H'->YieldsC X.K J ds G' H'->R J H') (XW X σ G H)
def iu(X:Cx)(g:GE)(m:List Md)(tg iter:Expr)(f:FI):Prop:=PI X tg iter (UI X g m f)
def iw.toC{fi:FI}(h:iw X g m tg iter fi):iu X g m tg iter fi:=PI.imp h fun σ H R ⟨r,G,si,q⟩=>⟨r,G,si,cn q fun ds k J G' H' w y=>k J G' H' w y.toC⟩
def NF{K:W.Frag}{a:Addr}{ds:List D}{G0:GH}{H0:Hp}(o:Own K G0 H0 a (.lst ds)):YieldsC K (pL K a) ds G0 H0:=by
 have at_:∀G H,Grow K G0 H0 G H->∃xs,cy K H a xs/\cR K G xs ds:=fun G H w=>by cases(o.mono w).ob with
 |lst r s=>exact⟨_,cy.of r,s⟩
 refine⟨fun G H i w hi=>?_,fun G H i x H' d w y e=>?_,fun G H w=>?_⟩
 .obtain⟨xs,s,r⟩:=at_ G H w;have hl:=Paired.length r;exact⟨xs,xs[i],s,o_ (by omega)⟩
 .obtain⟨xs,s,r⟩:=at_ G H w;obtain⟨rfl,y⟩:=y;obtain⟨v,e1,rv⟩:=Paired.get r e;have:=y xs s;rw[e1]at this;cases this;exact⟨G,Grow.refl w.ok,rv⟩
 .obtain⟨xs,s,r⟩:=at_ G H w;exact⟨xs,s,Qbj (Paired.length r)⟩
def fj(h:SB X g m e f):iu X g m tg e (bS cZ f):=by
 refine PI.imp (An h) fun σ H R ⟨r,G,si,q⟩=>⟨r,G,si,cn (cw q) fun d q v G' H' w rv=>?_⟩
 obtain⟨ds,e,q⟩:=dQ q;cases d with
|lst ds'=>
  cases e;rcases rv with rv|⟨a,rfl,o⟩
  .obtain⟨a,xs,rfl,s,rs⟩:=rv.lst w.ok;exact .inl ⟨a,rfl,⟨xs,s⟩,q _ G' H' w (Bf rv).toC⟩
  .cases o.ob with
  |lst r s=>exact .inl ⟨a,rfl,⟨_,cy.of r⟩,q _ G' H' w (NF o)⟩
|tup ds'=>
  cases e;rcases rv with rv|⟨a,rfl,o⟩
  .obtain⟨a,xs,rfl,s,rs⟩:=rv.tup w.ok;exact .inr ⟨a,rfl,⟨xs,s⟩,q _ G' H' w (AA rv).toC⟩
  .cases o.ob
|_=>cases e
def eO:List D->Option (List D)
|[.int j]=>if-(2^62)<=j/\j<2^62 then some (eG 0 j.toNat)else none
|_=>none
def fE(k:List D->Option (List D))(fl:aL->Res (List D)):FI:=fun r=>(fl r).bind fun ds=>dw (k ds)
def jp{pn:Pos}(hg:Gl X "range")(hm:X.mg "range" = none)(ha:iy X g m [a] fl)(hs:f_ [a] X.env=[(false,eval a X.env)]:=by rfl):iw X g m tg (.Call (.Name "range" pn) [a] [] pos) (fE eO fl):=by
 refine PI.imp (RC hg hm ha hs) fun σ H R ⟨r,G,si,q⟩=>⟨r,G,si,cn (cw q) fun ds q vs G' H' w rs=>?_⟩
 obtain⟨zs,e,q⟩:=dQ q;unfold eO at e;split at e
 .split at e
  .rename_i j hj;cases e;cases rs with
  |cons r1 t=>cases t;exact⟨j,by rw[r1.int w.ok],hj.1,hj.2,q _ G' H' w NG⟩
  .cases e
 .cases e
def bG(ft:FT)(body:FS):List D->FS
|[],r=>.nx r
|d::ds,r=>match ft d r with
 |none=>.stuck
 |some r1=>match body r1 with
  |.nx r'=>bG ft body ds r'
  |.ct r'=>bG ft body ds r'
  |.bk r'=>.nx r'
  |o=>o
def lT(m:List Md)(fi:FI)(ft:FT)(body:FS):FS:=fun r=>onE m r (fi r) fun ds=>bG ft body ds r
def li(hp:QbT (B_ X.prog X.w) X.A X.env X.xe)(hc:X.calm=true){ft:FT}{fi:FI}(hi:iw X g m tg iter fi)(hg:SG X g m tg ft m)(hb:fU X g ro m m sts s1 m)(hs:∀x,Zq iter X.env x=pure x:=by intro _;rfl):SS X g ro mb m (.For tg iter sts [] pos) (lT m fi ft s1) m:=by
 refine⟨rfl,PS.imp (uI hp hc hi hg.2 hb.2 hs) fun D σ H ⟨r,G,si,q⟩=>⟨r,G,si,cn (gE si rfl q) fun ds q J G0 H0 w0 Y=>?_⟩⟩;refine⟨fun i n σ H=>∃r G,SI X g m r G σ H/\bO G0 G/\i<=ds.length/\n=ds.length-i/\cV X g ro m mb G D (bG ft s1 (ds.drop i) r),⟨ds.length,r,G0,si.grow w0,bO.refl G0,Zf _,rfl,cV.gle q w0.ge⟩,?_⟩
 rintro i n σ1 H1 ⟨r1,G1,si1,le1,hi,rfl,q1⟩
 by_cases U:i<ds.length
 .have hd:ds.drop i=ds[i]::ds.drop (i+1):=ZQ U;rw[hd]at q1;unfold bG at q1;refine .inr ⟨Y.go G1 H1 i le1 si1.gok U,fun σ' H'=>∃r G,SI X g m r G σ' H'/\bO G0 G/\cV X g ro m mb G D (bG ft s1 (ds.drop (i+1)) r),fun σ' H' ⟨r',G',si',Z,q'⟩=>⟨ds.length-(i+1),by omega,r',G',si',Z,U,rfl,q'⟩,fun x H' y=>?_⟩;obtain⟨G',w',rv⟩:=Y.yld G1 H1 i x H' ds[i] le1 si1.gok y (o_ U);have Z:bO G0 G':=le1.trans w'.ge;cases ld:ft ds[i] r1 with
 |none=>simp only[ld]at q1;exact q1.elim
 |some r2=>simp only[ld]at q1;refine⟨r1,G',ds[i],si1.grow w',rv,r2,ld,fun σ2 BT=>⟨r2,G',BT,?_⟩⟩;cases eb:s1 r2 with
  |nx r'=>simp only[eb]at q1;exact fun σ3 G3 H3 z si3=>⟨r',G3,si3,Z.trans z,cV.gle q1 (bO.trans w'.ge z)⟩
  |ct r'=>simp only[eb]at q1;exact fun σ3 G3 H3 z si3=>⟨r',G3,si3,Z.trans z,cV.gle q1 (bO.trans w'.ge z)⟩
  |bk r'=>simp only[eb]at q1;exact fun σ3 G3 H3 z si3=>q1 σ3 G3 H3 (bO.trans w'.ge z) si3
  |rt d=>simp only[eb]at q1;exact q1
  |exc x r'=>simp only[eb]at q1;exact fun pz e s' σ3 G3 H3 z=>q1 pz e s' σ3 G3 H3 (bO.trans w'.ge z)
  |stuck=>simp only[eb]at q1;exact q1
 .have e:i=ds.length:=by omega
  subst e;rw[QaV]at q1;exact .inl ⟨Y.stop G1 H1 le1 si1.gok,q1 σ1 G1 H1 (bO.refl _) si1⟩
def eh(m:List Md):List Md:=m.map fun x=>if x=Md.sh then Md.sh else Md.bw
def l5(m:List Md)(r:aL)(st:L2.St)(G:GH)(H:Hp):GE:=⟨G,H,fun i=>if m[i]? = some Md.ow\/m[i]? = some Md.bw then some ((st[i]?).join,(r[i]?).join)else none⟩
def qI{m:List Md}{i:Nat}{x:Md}(h:m[i]? = some x):(eh m)[i]? = some (if x=Md.sh then Md.sh else Md.bw):=by unfold eh;rw[x_,h];rfl
def Q2{m:List Md}{i:Nat}(h:(eh m)[i]? = some Md.sh):m[i]? = some Md.sh:=by cases q:m[i]? with
|none=>unfold eh at h;rw[x_,q]at h;cases h
|some x=>rw[qI q]at h;cases x <;> first|rfl|(simp at h)
def Ir{m:List Md}{i:Nat}(h:(eh m)[i]? = some Md.ow):False:=by cases q:m[i]? with
|none=>unfold eh at h;rw[x_,q]at h;cases h
|some x=>rw[qI q]at h;cases x <;> simp at h
def lockM_bw{m:List Md}{i:Nat}(h:(eh m)[i]? = some Md.bw):m[i]? = some Md.ow\/m[i]? = some Md.bw:=by cases q:m[i]? with
|none=>unfold eh at h;rw[x_,q]at h;cases h
|some x=>rw[qI q]at h;cases x with
 |sh=>simp at h
 |ow=>exact .inl rfl
 |bw=>exact .inr rfl
def SI.lock{r:aL}{G:GH}{st:L2.St}{H:Hp}(s:SI X g m r G st H):SI X (l5 m r st G H) (eh m) r G st H where
 gok:=s.gok
 old:=fun _ _ e=>e
 ge:=fun _ _ e=>e
 gf:=fun _ _=>rfl
 lm:=by unfold eh;rw[q_];exact s.lm
 lr:=s.lr
 sh:=fun i d h hm=>s.sh i d h (Q2 hm)
 ow:=fun i d h hm=>(Ir hm).elim
 bw:=fun i d h hm=>by
  rcases lockM_bw hm with z|z
  .obtain⟨a,h1,h2,_⟩:=s.ow i d h z;exact⟨_,h1,.inr ⟨a,rfl,h2,h2.ob.isS⟩⟩
  .obtain⟨v,h1,h2⟩:=s.bw i d h z;refine⟨v,h1,?_⟩;rcases h2 with h2|⟨a,e,h2,_⟩
   .exact .inl h2
   .exact .inr ⟨a,e,h2,h2.ob.isS⟩
 dis:=fun i j a d e _ _ _ hm=>(Ir hm).elim
 lk:=fun i o h hm=>by
  have h':(if m[i]? = some Md.ow\/m[i]? = some Md.bw then some ((st[i]?).join,(r[i]?).join)else none)=some o:=h;rw[if_pos (lockM_bw hm)]at h';cases h';have hi:i<st.length:=by have:=(i_.mp hm).1;unfold eh at this;rw[q_,s.lm]at this;exact this
  refine⟨?_,fun d hd=>by rw[hd];rfl⟩;rw[o_ hi];rfl
def SI.unlock{r r':aL}{G G':GH}{st st':L2.St}{H H':Hp}(s:SI X g m r G st H)(s':SI X (l5 m r st G H) (eh m) r' G' st' H'):SI X g m r' G' st' H':=by
 have w:Grow X.K G H G' H':=s'.grown;have U:∀(i:Nat),(m[i]? = some Md.ow\/m[i]? = some Md.bw)->st'[i]? = some (st[i]?).join/\∀d,r'[i]? = some (some d)->r[i]? = some (some d):=fun i hi=>by
  have hm:(eh m)[i]? = some Md.bw:=by rcases hi with z|z <;> rw[qI z] <;> simp
  obtain⟨h1,h2⟩:=s'.lk i ((st[i]?).join,(r[i]?).join) (if_pos hi) hm;refine⟨h1,fun d hd=>?_⟩;have:=h2 d hd;cases q:r[i]? with
 |none=>rw[q]at this;cases this
 |some o=>rw[q]at this;rw[show o=some d from this]
 have Y:∀(i:Nat) v,(m[i]? = some Md.ow\/m[i]? = some Md.bw)->st[i]? = some (some v)->st'[i]? = some (some v):=fun i v hi h=>by rw[(U i hi).1,h];rfl
 refine⟨s'.gok,fun a o e=>s'.old a o (s.old a o e),fun a d e=>s'.ge a d (s.ge a d e),fun a h=>?_,?_,s'.lr,fun i d h hm=>?_,fun i d h hm=>?_,fun i d h hm=>?_,fun i j a d e Z h1 h2 m1 m2 q1 q2=>?_,fun i o hi hm=>?_⟩
 .have h1:H a≠none:=by cases e:g.h0 a with
  |none=>exact absurd e h
  |some o=>rw[s.old _ _ e];simp
  rw[w.gf a h1,s.gf a h]
 .have:=s'.lm;unfold eh at this;rw[q_]at this;exact this
 .exact s'.sh i d h (by rw[qI hm];simp)
 .obtain⟨a,h1,h2,h3⟩:=s.ow i d ((U i (.inl hm)).2 d h) hm;exact⟨a,Y i _ (.inl hm) h1,h2.mono w,h3⟩
 .obtain⟨v,h1,h2⟩:=s.bw i d ((U i (.inr hm)).2 d h) hm;exact⟨v,Y i _ (.inr hm) h1,h2.grow w⟩
 .have e1:=(U i (.inl m1)).2 d h1;have e2:=(U j (.inl m2)).2 e h2;obtain⟨b,z1,_,_⟩:=s.ow i d e1 m1;obtain⟨c,z2,_,_⟩:=s.ow j e e2 m2;have y1:=Y i _ (.inl m1) z1;have y2:=Y j _ (.inl m2) z2;rw[q1]at y1;rw[q2]at y2;cases y1;cases y2;exact s.dis i j a d e Z e1 e2 m1 m2 z1 z2
 .obtain⟨h1,h2⟩:=s.lk i o hi hm;refine⟨?_,fun d hd=>h2 d ((U i (.inr hm)).2 d hd)⟩;rw[(U i (.inr hm)).1,h1];rfl
def SI.unlockX{r r':aL}{G G':GH}{st st':L2.St}{H H':Hp}(s:SI X g m r G st H)(s':SI X (l5 m r st G H) (eZ (eh m)) r' G' st' H'):SI X g (eZ m) r' G' st' H':=by
 have w:Grow X.K G H G' H':=s'.grown;have el:eZ (eh m)=eZ m:=Br (by unfold eh;rw[q_]);rw[el]at s';have no:∀{i:Nat}{x:Md},(eZ m)[i]? = some x->x=Md.sh:=fun{i x} h=>by unfold eZ at h;rw[x_]at h;cases q:m[i]? with
 |none=>rw[q]at h;cases h
 |some y=>rw[q]at h;cases h;rfl
 refine⟨s'.gok,fun a o e=>s'.old a o (s.old a o e),fun a d e=>s'.ge a d (s.ge a d e),fun a h=>?_,s'.lm,s'.lr,s'.sh,fun i d h hm=>(nomatch (no hm)),fun i d h hm=>(nomatch (no hm)),fun i j a d e z h1 h2 m1 m2=>(nomatch (no m1)),fun i o hi hm=>(nomatch (no hm))⟩;have h1:H a≠none:=by cases e:g.h0 a with
 |none=>exact absurd e h
 |some o=>rw[s.old _ _ e];simp
 rw[w.gf a h1,s.gf a h]
def AB(hp:QbT (B_ X.prog X.w) X.A X.env X.xe)(hc:X.calm=true){ft:FT}{fi:FI}(hi:iu X g m tg iter fi)(hg:∀g',SG X g' (eh m) tg ft (eh m))(hb:∀g',fU X g' ro (eh m) (eh m) sts s1 (eh m))(hs:∀x,Zq iter X.env x=pure x:=by intro _;rfl):SS X g ro mb m (.For tg iter sts [] pos) (lT m fi ft s1) m:=by
 have Cl:PG X tg (fun v σ H Q=>∃g',tG X g' (eh m) (eh m) ft v σ H Q):=fun pz s σ H v u Q I r ⟨g',q⟩=>(hg g').2 pz s σ H v u Q I r q;have IO:dq X sts (fun D σ H=>∃g',tS X g' ro (eh m) (eh m) (eh m) s1 D σ H):=fun pz s σ H D I ⟨g',q⟩=>(hb g').2 pz s σ H D I q;refine⟨rfl,PS.imp (uI hp hc hi Cl IO hs) fun D σ H ⟨r,G,si,q⟩=>⟨r,G,si,cn (gE si rfl q) fun ds q J G0 H0 w0 Y=>?_⟩⟩;have Z:=si.grow w0;refine⟨fun i n σ1 H1=>∃r1 G1,SI X (l5 m r σ G0 H0) (eh m) r1 G1 σ1 H1/\i<=ds.length/\n=ds.length-i/\cV X g ro m mb G1 D (bG ft s1 (ds.drop i) r1),⟨ds.length,r,G0,Z.lock,Zf _,rfl,cV.gle q w0.ge⟩,?_⟩
 rintro i n σ1 H1 ⟨r1,G1,si1,hi,rfl,q1⟩
 have wg:Grow X.K G0 H0 G1 H1:=si1.grown;by_cases ld:i<ds.length
 .have hd:ds.drop i=ds[i]::ds.drop (i+1):=ZQ ld;rw[hd]at q1;unfold bG at q1;refine .inr ⟨Y.go G1 H1 i wg ld,fun σ' H'=>∃r' G',SI X (l5 m r σ G0 H0) (eh m) r' G' σ' H'/\cV X g ro m mb G' D (bG ft s1 (ds.drop (i+1)) r'),fun σ' H' ⟨r',G',si',q'⟩=>⟨ds.length-(i+1),by omega,r',G',si',ld,rfl,q'⟩,fun x H' y=>?_⟩;obtain⟨G',w',rv⟩:=Y.yld G1 H1 i x H' ds[i] wg y (o_ ld);cases BT:ft ds[i] r1 with
 |none=>simp only[BT]at q1;exact q1.elim
 |some r2=>simp only[BT]at q1;refine⟨l5 m r σ G0 H0,r1,G',ds[i],si1.grow w',rv,r2,BT,fun σ2 Id=>⟨l5 m r σ G0 H0,r2,G',Id,?_⟩⟩;cases eb:s1 r2 with
  |nx r'=>simp only[eb]at q1;exact fun σ3 G3 H3 U si3=>⟨r',G3,si3,cV.gle q1 (bO.trans w'.ge U)⟩
  |ct r'=>simp only[eb]at q1;exact fun σ3 G3 H3 U si3=>⟨r',G3,si3,cV.gle q1 (bO.trans w'.ge U)⟩
  |bk r'=>simp only[eb]at q1;exact fun σ3 G3 H3 U si3=>q1 σ3 G3 H3 (bO.trans w'.ge U) (Z.unlock si3)
  |rt d=>simp only[eb]at q1;intro v G2 H2 wr rv2;refine q1 v G2 H2 (Z.grown.trans wr) ?_;cases ro with
   |false=>exact rv2
   |true=>
     rcases rv2 with⟨a,e1,e2,e3⟩|z
     .exact .inl ⟨a,e1,Z.grown.back e2,e3⟩
     .exact .inr z
  |exc x r'=>simp only[eb]at q1;exact fun pz e s' σ3 G3 H3 U si3=>q1 pz e s' σ3 G3 H3 (bO.trans w'.ge U) (Z.unlockX si3)
  |stuck=>simp only[eb]at q1;exact q1
 .have e:i=ds.length:=by omega
  subst e;rw[QaV]at q1;exact .inl ⟨Y.stop G1 H1 wg,q1 σ1 G1 H1 (bO.refl _) (Z.unlock si1)⟩
def oK(m:List Md)(p:FQ)(body:FS):Nat->FS
|0,_=>.stuck
|n+1,r=>onE m r (p r) fun c=>if c=true then(match body r with
  |.nx r'=>oK m p body n r'
  |.ct r'=>oK m p body n r'
  |.bk r'=>.nx r'
  |o=>o)else .nx r
def O0(n:Nat)(hp:QbT (B_ X.prog X.w) X.A X.env X.xe)(hc:SQ X g m c p)(hb:fU X g ro m m sts s1 m):SS X g ro mb m (.While c sts [] pos) (oK m p s1 n) m:=by
 refine⟨rfl,PS.imp (Qb hp hc hb.2) fun D σ H ⟨r,G,si,q⟩=>?_⟩;refine⟨fun n σ H=>∃r G,SI X g m r G σ H/\cV X g ro m mb G D (oK m p s1 n r),⟨n,r,G,si,q⟩,?_⟩
 rintro n σ1 H1 ⟨r1,G1,si1,q1⟩
 cases n with
|zero=>exact q1.elim
|succ n=>unfold oK at q1;refine⟨r1,G1,si1,cn (gE si1 rfl q1) fun c q2 G2 H2 w2=>?_⟩;cases c with
 |false=>rw[if_neg k_]at q2 ⊢;exact q2 σ1 G2 H2 w2.ge (si1.grow w2)
 |true=>rw[if_pos rfl]at q2 ⊢;refine⟨fun σ' H'=>∃r G,SI X g m r G σ' H'/\cV X g ro m mb G D (oK m p s1 n r),fun σ' H' h=>⟨n,ZT _,h⟩,r1,G2,si1.grow w2,?_⟩;cases eb:s1 r1 with
  |nx r'=>simp only[eb]at q2;exact fun σ3 G3 H3 z si3=>⟨r',G3,si3,cV.gle q2 (bO.trans w2.ge z)⟩
  |ct r'=>simp only[eb]at q2;exact fun σ3 G3 H3 z si3=>⟨r',G3,si3,cV.gle q2 (bO.trans w2.ge z)⟩
  |bk r'=>simp only[eb]at q2;exact fun σ3 G3 H3 z si3=>q2 σ3 G3 H3 (bO.trans w2.ge z) si3
  |rt d=>simp only[eb]at q2;exact q2
  |exc x r'=>simp only[eb]at q2;exact fun pz e s' σ3 G3 H3 z=>q2 pz e s' σ3 G3 H3 (bO.trans w2.ge z)
  |stuck=>simp only[eb]at q2;exact q2
end
def lN:Res D->Res D
|.ok d=>.ok d
|_=>.stuck
inductive ArgsOk(K:W.Frag)(G:GH)(H:Hp):List Md->List V->List D->Prop where
 |nil:ArgsOk K G H [] [] []
 |sh {v:V} {d:D} {ms:List Md} {vs:List V} {ds:List D}:RG K G v d->ArgsOk K G H ms vs ds->ArgsOk K G H (.sh::ms) (v::vs) (d::ds)
 |bw {v:V} {d:D} {ms:List Md} {vs:List V} {ds:List D}:RB K G H v d->ArgsOk K G H ms vs ds->ArgsOk K G H (.bw::ms) (v::vs) (d::ds)
def ArgsOk.len{ms:List Md}{vs:List V}{ds:List D}(h:ArgsOk K G H ms vs ds):vs.length=ms.length/\ds.length=ms.length:=by induction h with
|nil=>exact⟨rfl,rfl⟩
|sh h t ih=>exact⟨congrArg (· + 1) ih.1,congrArg (· + 1) ih.2⟩
|bw h t ih=>exact⟨congrArg (· + 1) ih.1,congrArg (· + 1) ih.2⟩
def ArgsOk.app{dvs:List V}{dds:List D}(hs:Paired Scl dvs dds):∀{ms:List Md}{vs:List V}{ds:List D},ArgsOk K G H ms vs ds->ArgsOk K G H (ms++d_ dds.length .sh) (vs++dvs) (ds++dds)
|_,_,_,.nil=>by induction hs with
 |nil=>exact .nil
 |cons h t ih=>exact .sh (.scl h) ih
|_,_,_,.sh h t=>.sh h (t.app hs)
|_,_,_,.bw h t=>.bw h (t.app hs)
def ArgsOk.get:∀{ms:List Md}{vs:List V}{ds:List D}{i:Nat}{d:D},ArgsOk K G H ms vs ds->ds[i]? = some d->∃v,vs[i]? = some v/\((ms[i]? = some .sh/\RG K G v d)\/(ms[i]? = some .bw/\RB K G H v d))
|_,_,_,_,_,.nil,e=>by simp at e
|_,_,_,0,_,.sh h t,e=>by simp at e;subst e;exact⟨_,rfl,.inl ⟨rfl,h⟩⟩
|_,_,_,0,_,.bw h t,e=>by simp at e;subst e;exact⟨_,rfl,.inr ⟨rfl,h⟩⟩
|_,_,_,i+1,d,.sh h t,e=>by obtain⟨v,h1,h2⟩:=t.get (i:=i) (d:=d) (by simpa using e);exact⟨v,by simpa using h1,by simpa using h2⟩
|_,_,_,i+1,d,.bw h t,e=>by obtain⟨v,h1,h2⟩:=t.get (i:=i) (d:=d) (by simpa using e);exact⟨v,by simpa using h1,by simpa using h2⟩
def jE(K:W.Frag)(ro:Bool)(ms:List Md)(F:List D->Res D):Sp:=fun vs H Q _=>∃G ds,bW K G H/\ArgsOk K G H ms vs ds/\fin (F ds) (fun d=>∀v G' H',Grow K G H G' H'->RV ro K H G' H' v d->Q v H') fun _=>False
def dU(ro:Bool):Out->Res D
|.nx _=>if ro=true then .stuck else .ok .non
|.rt d=>.ok d
|.exc x _=>.exc x
|_=>.stuck
def c7(n:Nat)(ds:List D):aL:=ds.map some++d_ (n-ds.length) none
def iC(n:Nat)(ms:List Md):List Md:=ms++d_ (n-ms.length) .sh
variable{w:N_}
section
variable{P:C_}{mg:Str->Option Value}{base:Heap}
def Bh{X:Cx}{N:List Str}{ms:List Md}{vs:List V}{ds:List D}{G:GH}{H:Hp}(gk:bW X.K G H)(rs:ArgsOk X.K G H ms vs ds)(hn:ms.length<=N.length):SI X ⟨G,H,fun _=>none⟩ (iC N.length ms) (c7 N.length ds) G (L2.cm N vs) H:=by
 obtain⟨l1,l2⟩:=rs.len;have e1:(L2.cm N vs).length=N.length:=by unfold L2.cm;rw[Y3,q_,ZR];omega
 have e2:(c7 N.length ds).length=N.length:=by unfold c7;rw[Y3,q_,ZR];omega
 have e3:(iC N.length ms).length=N.length:=by unfold iC;rw[Y3,ZR];omega
 have at_:∀(i:Nat) d,(c7 N.length ds)[i]? = some (some d)->i<ms.length/\(iC N.length ms)[i]? = ms[i]?/\∃v,(L2.cm N vs)[i]? = some (some v)/\((ms[i]? = some .sh/\RG X.K G v d)\/(ms[i]? = some .bw/\RB X.K G H v d)):=fun i d h=>by
  unfold c7 at h;by_cases hi:i<ds.length
  .rw[Y4 (by simpa using hi),x_]at h;have hd:ds[i]? = some d:=by cases z:ds[i]? with
   |none=>rw[z]at h;cases h
   |some d'=>rw[z]at h;cases h;rfl
   obtain⟨v,hv,rv⟩:=rs.get hd;refine⟨by omega,?_,v,?_,rv⟩
   .unfold iC;rw[Y4 (by omega)]
   .unfold L2.cm;rw[Y4 (by rw[q_];omega),x_,hv];rfl
  .rw[Qah (by simpa using hi),Zr]at h;split at h <;> cases h
 refine⟨gk,fun _ _ e=>e,fun _ _ e=>e,fun _ _=>rfl,by rw[e3,e1],by rw[e1,e2],fun i d h hm=>?_,fun i d h hm=>?_,fun i d h hm=>?_,fun i j a d e _ h _ hm=>?_,fun i o h=>nomatch h⟩
 .obtain⟨_,hq,v,h1,h2⟩:=at_ i d h;rw[hq]at hm;rcases h2 with⟨_,h2⟩|⟨h3,h2⟩
  .exact⟨v,h1,h2⟩
  .rw[hm]at h3;cases h3
 .obtain⟨_,hq,v,h1,h2⟩:=at_ i d h;rw[hq]at hm;rcases h2 with⟨h3,h2⟩|⟨h3,h2⟩ <;> rw[hm]at h3 <;> cases h3
 .obtain⟨_,hq,v,h1,h2⟩:=at_ i d h;rw[hq]at hm;rcases h2 with⟨h3,h2⟩|⟨h3,h2⟩
  .rw[hm]at h3;cases h3
  .refine⟨v,h1,?_⟩;rcases h2 with h2|⟨a,rfl,h2⟩
   .exact .inl h2
   .exact .inr ⟨a,rfl,h2,h2.ob.isS⟩
 .obtain⟨_,hq,v,h1,h2⟩:=at_ i d h;rw[hq]at hm;rcases h2 with⟨h3,h2⟩|⟨h3,h2⟩ <;> rw[hm]at h3 <;> cases h3
def PU{X:Cx}{ro:Bool}{fs:FS}{m':List Md}{G:GH}{H:Hp}{r:aL}{Q:VK}(q:fin (dU ro (fs r)) (fun d=>∀v G' H',Grow X.K G H G' H'->RV ro X.K H G' H' v d->Q v H') fun _=>False):cV X ⟨G,H,fun _=>none⟩ ro m' [] G { nx:=fun _ H'=>Q .non H',rt:=Q } (fs r):=by cases e:fs r with
|nx r'=>rw[e]at q;cases ro with
 |false=>exact fun σ' G' H' _ si=>q .non G' H' si.grown (.scl .non)
 |true=>exact q.elim
|rt d=>rw[e]at q;exact fun v G' H' wg rv=>q v G' H' wg rv
|bk r'=>rw[e]at q;exact q.elim
|ct r'=>rw[e]at q;exact q.elim
|exc x r'=>rw[e]at q;exact q.elim
|stuck=>rw[e]at q;exact q
def Ab{x qual:Str}{st:Stmt}{f:Addr}{fd:Zt}{N ps:List Str}{k:Nat}{ro:Bool}{ms:List Md}{fs:FS}{m':List Md}(F:Fun K x qual st f fd)(S:FnScope N ps (aE st))(U:ms.length=ps.length)(z:∀(cdv:Value)(A:W_)(outer:List Env)(s:h_)(H:Hp)(g:GE)(E:XK),Room k (A.deeper (QaX qual (aE st) s.heap.objs.size f cdv)) ->fU (bM cH P w K mg base N qual (aE st) f cdv A outer s H E).nox g ro [] (iC N.length ms) (aO st) fs m'):FnOk P w K mg base cH (k+1) f fd ps (jE K ro ms fun ds=>dU ro (fs (c7 N.length ds))):=by
 refine F.ok S (fun vs H Q E ⟨G,ds,gk,rs,q⟩=>rs.len.1.trans U) fun cdv A outer s H vs Q E hr h=>?_;obtain⟨G,ds,gk,rs,q⟩:=h;have Y:ps.length<=N.length:=by have:=congrArg QcN S.pre;rw[Qad]at this;omega
 exact⟨_,(z cdv A outer s H ⟨G,H,fun _=>none⟩ E hr).2,c7 N.length ds,G,Bh gk rs (by omega),PU q⟩
end
section
variable{k:Nat}{fa:Addr}{fd:Zt}{ps:List Str}{F:List D->Res D}{dvs:List V}{ds:List Value}{dds:List D}{x:Str}{p:Pos}{ms:List Md}
def UH(X:Cx)(g:GE)(m:List Md)(ms:List Md)(f:aL->Res (List D)):TA:=fun σ H Q=>∃r G,SI X g m r G σ H/\fin (f r) (fun ds=>∀vs G' H',Grow X.K G H G' H'->ArgsOk X.K G' H' ms vs ds->Q vs H') (XW X σ G H)
def iM(X:Cx)(g:GE)(m:List Md)(es:List Expr)(ms:List Md)(f:aL->Res (List D)):Prop:=PA X es (UH X g m ms f)
def aR:iM X g m [] [] aH:=PA.imp iE fun σ H Q ⟨r,G,si,k⟩=>k [] G H (Grow.refl si.gok) .nil
def bF(ha:SE X g m e f)(hr:iM X g m es ms fl)(hs:f_ (e::es) X.env=(false,eval e X.env)::f_ es X.env:=by rfl):iM X g m (e::es) (.sh::ms) (aJ f fl):=by
 refine PA.imp (fO ha hr hs) fun σ H Q ⟨r,G,si,k⟩=>⟨r,G,si,cn (cw k) fun d k1 v G1 H1 w1 r1=>⟨r,G1,si.grow w1,?_⟩⟩
 exact iR (cw k1) w1 fun ds z vs G2 H2 w2 r2=>z (v::vs) G2 H2 (w1.trans w2) (.sh (r1.mono w2.ge) r2)
def aG(ha:SB X g m e f)(hr:iM X g m es ms fl)(hs:f_ (e::es) X.env=(false,eval e X.env)::f_ es X.env:=by rfl):iM X g m (e::es) (.bw::ms) (aJ f fl):=by
 refine PA.imp (fO ha hr hs) fun σ H Q ⟨r,G,si,k⟩=>⟨r,G,si,cn (cw k) fun d k1 v G1 H1 w1 r1=>⟨r,G1,si.grow w1,?_⟩⟩
 exact iR (cw k1) w1 fun ds z vs G2 H2 w2 r2=>z (v::vs) G2 H2 (w1.trans w2) (.bw (r1.mono w2) r2)
def cg(fl:aL->Res (List D))(dds:List D)(F:List D->Res D):FE:=fun r=>(fl r).bind fun ds=>lN (F (ds++dds))
def Jc{ro:Bool}{vs:List V}{zs:List D}{G:GH}{H:Hp}{Q:VK}(gk:bW X.K G H)(rs:ArgsOk X.K G H ms vs zs)(z:Paired Scl dvs dds)(q:fin (lN (F (zs++dds))) (fun d=>∀v G' H',Grow X.K G H G' H'->RV ro X.K H G' H' v d->Q v H') fun _=>False):jE X.K ro (ms++d_ dds.length .sh) F (vs++dvs) H Q E0:=by refine⟨G,zs++dds,gk,rs.app z,?_⟩;cases e:F (zs++dds)with
|ok d=>rw[e]at q;exact q
|exc x=>rw[e]at q;exact q.elim
|stuck=>rw[e]at q;exact q.elim
def By{α:Type}{r:Res α}{q:α->Prop}{x:D->Prop}(h:fin r q x)(hr:∀e,r≠.exc e):fin r q fun _=>False:=by cases r with
|ok a=>exact h
|exc e=>exact absurd rfl (hr e)
|stuck=>exact h
def GJ(r:Res D)(e:D):lN r≠.exc e:=by cases r <;> simp[lN]
def NU(G1:FnOk X.prog X.w X.K X.mg X.base cH k fa fd ps (jE X.K false (ms++d_ dds.length .sh) F))(hr:Room k X.A)(hg:Gl X x)(hm:X.mg x=some (.ref fa))(hk:W.keepIn X.K (.ref fa)=true)(hb:hU X.K fd ps ds)(hd:aN dvs ds)(Y:Paired Scl dvs dds)(ha:iM X g m (e::es) ms fl)(U:(x==("__debug__" : Str))=false:=by decide)(he:f_ (e::es) X.env=(false,eval e X.env)::f_ es X.env:=by rfl)(z:(backTo pos (f_ es X.env)).any (·.1)=false:=by rfl):SE X g m (.Call (.Name x p) (e::es) [] pos) (cg fl dds F):=by
 refine PE.imp (Hk G1 hr hg hm hk hb hd uC ha U he z) fun σ H Q ⟨r,G,si,q⟩=>⟨r,G,si,?_⟩
 cases ez:fl r with
|ok zs=>unfold cg at q;rw[ez]at q;intro vs G' H' w' rs;exact Jc w'.ok rs Y (cn (By q (GJ _)) fun d k v G2 H2 w2 rv=>k v G2 H2 (w'.trans w2) rv)
|exc x=>unfold cg at q;rw[ez]at q;exact q
|stuck=>unfold cg at q;rw[ez]at q;exact q
def kW(f:FE):FE:=fun r=>(f r).bind fun d=>match d with
|.non=>.stuck
|d=>.ok d
def Na(G1:FnOk X.prog X.w X.K X.mg X.base cH k fa fd ps (jE X.K true (ms++d_ dds.length .sh) F))(hr:Room k X.A)(hg:Gl X x)(hm:X.mg x=some (.ref fa))(hk:W.keepIn X.K (.ref fa)=true)(hb:hU X.K fd ps ds)(hd:aN dvs ds)(Y:Paired Scl dvs dds)(ha:iM X g m (e::es) ms fl)(U:(x==("__debug__" : Str))=false:=by decide)(he:f_ (e::es) X.env=(false,eval e X.env)::f_ es X.env:=by rfl)(z:(backTo pos (f_ es X.env)).any (·.1)=false:=by rfl):SO X g m (.Call (.Name x p) (e::es) [] pos) (kW (cg fl dds F)):=by
 refine PE.imp (Hk G1 hr hg hm hk hb hd uC ha U he z) fun σ H Q ⟨r,G,si,q⟩=>⟨r,G,si,?_⟩
 cases ez:fl r with
|ok zs=>
  have q:=cw q;unfold cg at q;rw[ez]at q;intro vs G' H' w' rs;refine Jc w'.ok rs Y (cn (By q (GJ _)) fun d k v G2 H2 w2 rv=>?_);rcases rv with⟨a,rfl,hn,ho⟩|⟨rfl,rfl⟩
  .cases d with
  |non=>exact k.elim
  |_=>exact k a G2 H2 (w'.trans w2) (w'.back hn) ho
  .exact k.elim
|exc x=>have q:=cw q;unfold cg at q;rw[ez]at q;exact q
|stuck=>have q:=cw q;unfold cg at q;rw[ez]at q;exact q
end
def P4{env:Env}:∀(l:List (Str×QaQ))(cs:List (Str×Addr)),(∀x∈l,x.2=.free->∃c,env.cells.lookup x.1=some c)->(∀x c,cs.lookup x=some c->env.cells.lookup x=some c) ->∃cl,(forIn l cs (fun(x:Str×QaQ)(cs:List (Str×Addr))=>if (x.2==NameKind.free)=true then(do let a <-cellOf env x.1;pure (ForInStep.yield ((x.1,a)::cs)))else pure (ForInStep.yield cs)):Sem (List (Str×Addr)))=pure cl /\(∀x c,cl.lookup x=some c->env.cells.lookup x=some c)/\(∀x,(x,NameKind.free)∈l->∃c,cl.lookup x=some c)/\(∀x c,cs.lookup x=some c->∃c',cl.lookup x=some c'):=by
 intro l
 induction l with
|nil=>intro cs _ h;exact⟨cs,rfl,h,fun x hx=>(by cases hx),fun x c h=>⟨c,h⟩⟩
|cons y l ih=>
  intro cs hf hc;obtain⟨n,k⟩:=y;by_cases hk:k=.free
  .subst hk;obtain⟨c,ec⟩:=hf (n,.free) r_ rfl;have e1:cellOf env n=pure c:=by unfold cellOf;rw[ec]
   have U:∀x c',((n,c)::cs).lookup x=some c'->env.cells.lookup x=some c':=fun x c' h=>by rw[QaA]at h;cases q:x==n with
   |true=>rw[q]at h;cases h;rw[Z5 q];exact ec
   |false=>rw[q]at h;exact hc x c' h
   obtain⟨cl,e2,h1,h2,h3⟩:=ih ((n,c)::cs) (fun x hx=>hf x (m_ _ hx)) U;refine⟨cl,?_,h1,fun x hx=>?_,fun x c' h=>?_⟩
   .rw[<-e2];rw[Qal];show(cellOf env n >>= fun a=>pure (ForInStep.yield ((n,a)::cs))) >>= _=_;rw[e1];rfl
   .rcases e_.mp hx with z|z
    .cases z;exact h3 n c (by rw[QaA];simp)
    .exact h2 x z
   .cases q:x==n with
   |true=>exact h3 x c (by rw[QaA,q])
   |false=>exact h3 x c' (by rw[QaA,q];exact h)
  .obtain⟨cl,e2,h1,h2,h3⟩:=ih cs (fun x hx=>hf x (m_ _ hx)) hc;have hb:(k==NameKind.free)=false:=by simpa using hk
   refine⟨cl,?_,h1,fun x hx=>?_,h3⟩
   .rw[<-e2,Qal];simp only[hb,Qbb,if_false];rfl
   .rcases e_.mp hx with z|z
    .cases z;exact absurd rfl hk
    .exact h2 x z
def Sc{scope:Qa1}{env:Env}(hf:∀x∈scope.names,x.2=.free->∃c,env.cells.lookup x.1=some c):∃cl,Qeo scope env=pure cl/\(∀x c,cl.lookup x=some c->env.cells.lookup x=some c)/\(∀x,(x,NameKind.free)∈scope.names->∃c,cl.lookup x=some c):=by obtain⟨cl,e,h1,h2,_⟩:=P4 scope.names [] hf (fun x c h=>by cases h);refine⟨cl,?_,h1,h2⟩;have e0:Qeo scope env=((forIn scope.names ([]:List (Str×Addr)) (fun(x:Str×QaQ)(cs:List (Str×Addr))=>if (x.2==NameKind.free)=true then(do let a <-cellOf env x.1;pure (ForInStep.yield ((x.1,a)::cs)))else pure (ForInStep.yield cs)):Sem (List (Str×Addr))) >>= fun cs=>pure cs):=rfl;rw[e0,e];rfl
def Kd{f:Str->QaQ->QaQ}:∀(l:List (Str×QaQ))(x:Str),(l.map fun y=>(y.1,f y.1 y.2)).lookup x=(l.lookup x).map (f x)
|[],x=>rfl
|(n,k)::l,x=>by rw[U_,QaA,QaA];cases q:x==n with
 |true=>simp[Z5 q]
 |false=>exact Kd l x
def fY(env:Env)(n:Str)(k:QaQ):QaQ:=if (k==.free&&env.scope.kind==.function&&env.kindOf n==some .cell)=true then .cell else k
def Ke(scope:Qa1)(env:Env)(x:Str):(Qdz scope env).names.lookup x=(scope.names.lookup x).map (fY env x):=by
 rw[<-Kd];unfold Qdz;congr 1;apply QaY;intro y _;obtain⟨n,k⟩:=y;show(if (k==NameKind.free&&env.scope.kind==.function&&env.kindOf n==some .cell)=true then(n,NameKind.cell)else(n,k))=(n,fY env n k)
 unfold fY;split <;> rfl
structure CompSc(X:Cx)(scope:Qa1)(N':List Str)(nl:Nat)(cap:List Nat):Prop where
 kind:scope.kind=.function
 nocell:∀y∈scope.names,y.2≠.cell
 names:∀y∈scope.names,y.2=.local->scope.names.lookup y.1=some .local
 freeK:∀y∈scope.names,y.2=.free->X.env.kindOf y.1=some .cell\/X.env.kindOf y.1=some .free
 len:N'.length=nl+cap.length
 capN:∀j,j<cap.length->∃x,N'[nl+j]? = some x/\X.N[cap.getD j 0]? = some x/\scope.names.lookup x=some .free
def gz(X:Cx)(s₀:h_)(H₀:Hp)(N':List Str)(scope:Qa1)(cl:List (Str×Addr))(C:Addr)(fp:List Addr):Cx where
 prog:=X.prog
 w:=X.w
 K:=X.K
 mg:=X.mg
 base:=X.base
 A:=X.A
 N:=N'
 s₀:=s₀
 H₀:=H₀
 env:=QcR scope cl C X.env
 outer:=X.stack
 stack:=X.stack
 ex:=fp
 fn:=fun _=>false
 calm:=X.calm
 pn:=[]
 xe:=fun _ _=>False
variable{pz:List (Addr×Obj)}{σ:L2.St}{s:h_}{scope:Qa1}{N':List Str}{nl:Nat}{cap:List Nat}{cl:List (Str×Addr)}{C:Addr}{fp:List Addr}
def Ml(I:Inv X pz σ H s)(sc:CompSc X scope N' nl cap)(h1:∀x c,cl.lookup x=some c->X.env.cells.lookup x=some c)(h2:∀x,(x,NameKind.free)∈scope.names->∃c,cl.lookup x=some c)(hf:∀b∈fp,eL X pz H b/\b<s.heap.objs.size)(hC:s.heap.objs.size<=C):(gz X s H N' scope cl C fp).Ok where
 mod:=I.ok.mod
 kind:=sc.kind
 glob:=I.ok.glob
 blt:=I.ok.blt
 above:=hC
 inj:=fun x y c a b=>I.ok.inj x y c (h1 x c a) (h1 y c b)
 has:=fun x hk=>by
  have hk':(scope.names.lookup x).map (fY X.env x)=some .cell\/(scope.names.lookup x).map (fY X.env x)=some .free:=by rw[<-Ke];exact hk
  cases e:scope.names.lookup x with
 |none=>rw[e]at hk';rcases hk' with z|z <;> cases z
 |some k=>
   have hm:=ZM e;have kf:k=.free:=by
    rw[e]at hk';have U:fY X.env x k=.cell\/fY X.env x k=.free:=by
     rcases hk' with z|z
     .exact .inl (E_ z)
     .exact .inr (E_ z)
    unfold fY at U;split at U
    .rename_i hc;simp only[P_,beq_iff_eq]at hc;exact hc.1.1
    .rcases U with z|z
     .exact absurd z (sc.nocell _ hm)
     .exact z
   subst kf;exact h2 x hm
 cab:=fun x c h=>by cases h
 hd:=I.ok.hd
 frames:=I.ok.frames
 stk:=.inl rfl
 exf:=fun b hb=>⟨G_ (F_ (hf b hb).2 hC),fun x c e=>(hf b hb).1.2.2.2.2.1 x c (h1 x c e)⟩
 bs:=I.bs
 bsz:=Y8 I.ok.bsz I.sz
 noex:=fun b o e hb=>by
  obtain⟨_,_,_,hx,_⟩:=(hf b hb).1;rcases hx with z|z
  .exact I.ok.noex b o e z
  .exact absurd (F_ (z_ e) (Y8 I.ok.bsz z)) (Zw _)
 exfs:=fun b hb hfs=>by
  obtain⟨_,q1,q2,_⟩:=(hf b hb).1;rcases e_.mp (I.stkSub b hfs)with z|z
  .exact q1 z
  .exact q2 z
 funs:=I.stack
 frf:=I.stkFree
def gB(ft:FT)(q:FQ)(fe:FE)(r0:aL):List D->Res (List D)
|[]=>.ok []
|d::ds=>(dw (ft d r0)).bind fun r1=>(q r1).bind fun c=>if c=true then(fe r1).bind fun v=>(gB ft q fe r0 ds).bind fun vs=>.ok (v::vs)else gB ft q fe r0 ds
def cF(nl:Nat)(cap:List Nat)(r:aL):aL:=d_ nl none++cap.map fun i=>r.getD i none
def bT(nl:Nat)(cap:List Nat)(m:List Md):List Md:=d_ nl Md.sh++cap.map fun i=>if m.getD i Md.sh=Md.sh then Md.sh else Md.bw
def fG(nl:Nat)(cap:List Nat)(st:L2.St):L2.St:=d_ nl none++cap.map fun i=>st.getD i none
def qk{α:Type}{nl:Nat}{cap:List Nat}{u:α}{h:Nat->α}{i:Nat}(hi:nl<=i):(d_ nl u++cap.map h)[i]? = (cap[i-nl]?).map h:=by rw[Qah (by simpa using hi),ZR,x_]
def LH(si:SI X g m r G σ H)(w:Grow X.K G H G' H'):SI (gz X s H N' scope cl C fp) ⟨G,H,fun _=>none⟩ (bT nl cap m) (cF nl cap r) G' (fG nl cap σ) H':=by
 have IO:(bT nl cap m).length=nl+cap.length:=by simp[bT]
 have Id:(cF nl cap r).length=nl+cap.length:=by simp[cF]
 have BT:(fG nl cap σ).length=nl+cap.length:=by simp[fG]
 have U:∀(i:Nat) d,(cF nl cap r)[i]? = some (some d)->nl<=i/\∃j,cap[i-nl]? = some j/\r[j]? = some (some d):=fun i d h=>by
  by_cases hi:i<nl
  .unfold cF at h;rw[Y4 (by simpa using hi),Zr]at h;split at h <;> cases h
  .refine⟨by omega,?_⟩;unfold cF at h;rw[qk (by omega)]at h;cases e:cap[i-nl]? with
  |none=>rw[e]at h;cases h
  |some j=>rw[e]at h;refine⟨j,rfl,?_⟩;have h':r.getD j none=some d:=E_ h;rw[A_]at h';cases e2:r[j]? with
   |none=>rw[e2]at h';cases h'
   |some o=>rw[e2]at h';rw[show o=some d from h']
 have Y:∀(i j:Nat) md,nl<=i->cap[i-nl]? = some j->(bT nl cap m)[i]? = some md->md=if m.getD j Md.sh=Md.sh then Md.sh else Md.bw:=fun i j md hi hj h=>by unfold bT at h;rw[qk hi,hj]at h;exact(E_ h).symm
 have Z:∀(i j:Nat) v,nl<=i->cap[i-nl]? = some j->σ[j]? = some (some v)->(fG nl cap σ)[i]? = some (some v):=fun i j v hi hj h=>by unfold fG;rw[qk hi,hj];show some (σ.getD j none)=_;rw[A_,h];rfl
 have mj:∀(j:Nat) d,r[j]? = some (some d)->m[j]? = some (m.getD j Md.sh):=fun j d h=>by
  have hl:j<m.length:=by have:=(i_.mp h).1;rw[si.lr,<-si.lm]at this;exact this
  rw[A_,o_ hl];rfl
 refine⟨w.ok,w.he,w.ge,w.gf,by rw[IO,BT],by rw[Id,BT],fun i d h hm=>?_,fun i d h hm=>?_,fun i d h hm=>?_,fun i j a d e _ h _ hm=>?_,fun i o h=>nomatch h⟩
 .obtain⟨hi,j,hj,hr⟩:=U i d h;have e:=Y i j _ hi hj hm;have Cl:m.getD j Md.sh=Md.sh:=by
   by_cases z:m.getD j Md.sh=Md.sh
   .exact z
   .rw[if_neg z]at e;cases e
  obtain⟨v,h1,h2⟩:=si.sh j d hr (by rw[mj j d hr,Cl]);exact⟨v,Z i j v hi hj h1,h2.mono w.ge⟩
 .obtain⟨hi,j,hj,hr⟩:=U i d h;have e:=Y i j _ hi hj hm;split at e <;> cases e
 .obtain⟨hi,j,hj,hr⟩:=U i d h;have e:=Y i j _ hi hj hm;have Cl:m.getD j Md.sh≠Md.sh:=by intro z;rw[if_pos z]at e;cases e
  have ld:=mj j d hr;cases q:m.getD j Md.sh with
 |sh=>exact absurd q Cl
 |ow=>rw[q]at ld;obtain⟨a,h1,h2,_⟩:=si.ow j d hr ld;exact⟨_,Z i j _ hi hj h1,.inr ⟨a,rfl,h2.mono w,h2.ob.isS⟩⟩
 |bw=>
   rw[q]at ld;obtain⟨v,h1,h2⟩:=si.bw j d hr ld;refine⟨v,Z i j _ hi hj h1,?_⟩;rcases h2 with h2|⟨a,rfl,h2,_⟩
   .exact .inl (h2.mono w.ge)
   .exact .inr ⟨a,rfl,h2.mono w,h2.ob.isS⟩
 .obtain⟨hi,j',hj,hr⟩:=U i d h;have e:=Y i j' _ hi hj hm;split at e <;> cases e
def Mg(I:Inv X pz σ H s)(ok:(gz X s H N' scope cl C fp).Ok)(sc:CompSc X scope N' nl cap)(h1:∀x c,cl.lookup x=some c->X.env.cells.lookup x=some c)(h2:∀x,(x,NameKind.free)∈scope.names->∃c,cl.lookup x=some c)(hN:X.N.Nodup){s4:h_}{H4:Hp}{mc:Str->Option Value}(Cl:s4.os=s.os)(hb:Qbf s4.gens)(kp:∀b o,s.heap.get? b=some o->s4.heap.get? b=some o)(ld:s4.heap.Ns C mc)(hC:s.heap.objs.size<=C)(BT:H4 C=none)(hH:∀b,H b=none->b<s.heap.objs.size->H4 b=none)(un:Un (dJ X.stack) fp H H4 s.heap s4.heap)(hok:dH X.prog X.w H4 s4.heap):Inv (gz X s H N' scope cl C fp) [] (fG nl cap σ) H4 s4:=by
 refine⟨ok,Cl,hb,un,⟨mc,ld,fun i x v e1 e2 e3=>?_⟩,fun x c e=>?_,BT,fun x c e=>?_,fun p hp=>absurd (show p∈([]:List (Addr×Obj))from hp) (by simp),hok,?_⟩
 .have hi:nl<=i:=by
   by_cases z:i<nl
   .unfold fG at e2;rw[Y4 (by simpa using z),Zr]at e2;split at e2 <;> cases e2
   .omega
  unfold fG at e2;rw[qk hi]at e2;cases ej:cap[i-nl]? with
 |none=>rw[ej]at e2;cases e2
 |some j=>
   rw[ej]at e2;have hj:i-nl<cap.length:=(i_.mp ej).1;obtain⟨x',q1,q2,q3⟩:=sc.capN (i-nl) hj;have ed:cap.getD (i-nl) 0=j:=by rw[A_,ej];rfl
   rw[ed]at q2;have ei:nl+(i-nl)=i:=by omega
   rw[ei]at q1;have Y:N'[i]? = some x:=e1;rw[q1]at Y;have ex:x'=x:=E_ Y;subst ex;have hv:σ[j]? = some (some v):=by have z:σ.getD j none=some v:=E_ e2;rw[A_]at z;cases q:σ[j]? with
   |none=>rw[q]at z;cases z
   |some o=>rw[q]at z;rw[show o=some v from z]
   have U:=ZM q3;have kX:=sc.freeK _ U rfl;obtain⟨mx,Id,hl⟩:=I.loc;obtain⟨u,ru,lk⟩:=hl j x' v q2 hv (.inr kX);refine⟨u,ru,.inr ?_⟩;obtain⟨c,ec⟩:=h2 x' U;have Z:Env.kindOf (gz X s H N' scope cl C fp).env x'=some .cell\/Env.kindOf (gz X s H N' scope cl C fp).env x'=some .free:=by
    have z:(Qdz scope X.env).names.lookup x'=some (fY X.env x' .free):=by rw[Ke,q3];rfl
    show(Qdz scope X.env).names.lookup x'=_\/(Qdz scope X.env).names.lookup x'=_;rw[z];unfold fY;split
    .exact .inl rfl
    .exact .inr rfl
   refine⟨Z,c,ec,?_⟩;rcases lk with⟨k,_⟩|⟨_,c',ec',hcell⟩
   .rcases kX with z|z <;> rw[k]at z <;> cases z
   .rw[h1 x' c ec]at ec';cases ec';obtain⟨o,ho,hd⟩:=hcell;exact⟨o,kp c o ho,hd⟩
 .obtain⟨v,o,ho,hd⟩:=I.cell x c (h1 x c e);exact⟨v,o,kp c o ho,hd⟩
 .obtain⟨v,o,ho,hd⟩:=I.cell x c (h1 x c e);exact hH c (I.freeC x c (h1 x c e)) (z_ ho)
 .show(fG nl cap σ).length=N'.length;rw[sc.len];simp[fG]
section
variable{prog:C_}{A:W_}{R:Qej->h_->Prop}
def OF{elt target iter:Expr}{ifs:List Expr}{scope:Qa1}{pos:Pos}{it z:Value}{env:Env}(I:Nat->h_->Prop)(turn:∀n s,I n s->w_ (B_ prog w) A (QcL it) (fun r s1=>match r with
  |none=>R (.ok .next) s1
  |some v=>w_ (B_ prog w) A (QbJ target it v) (fun _ U=>w_ (B_ prog w) A (Qax target env v) (fun _ s2=>
     w_ (B_ prog w) A (forIn ifs true fun c r=>if r=true then do let ok <-isTrue c env (eval c env);pure (ForInStep.yield ok)else pure (ForInStep.yield r)) (fun ok s3=>
      if ok=true then w_ (B_ prog w) A (eval elt env) (fun x s4=>w_ (B_ prog w) A (call (.builtin "list.append") [z,x]) (fun _ s5=>∃m,m<n/\I m s5) (QcC (B_ prog w) A env fun e s'=>R (.error e) s') s4) (QcC (B_ prog w) A env fun e s'=>R (.error e) s') s3
      else ∃m,m<n/\I m s3) (QcC (B_ prog w) A env fun e s'=>R (.error e) s') s2) (QcC (B_ prog w) A env fun e s'=>R (.error e) s') U)
     (QcC (B_ prog w) A env fun e s'=>R (.error e) s') s1) (QcC (B_ prog w) A env fun e s'=>R (.error e) s') s)(n:Nat)(h:I n s):QbA (B_ prog w) A (.compLoop (.ListComp elt [⟨target,iter,ifs,0⟩] scope pos) 0 it z env) R s:=by refine codeAny_loop rfl I (fun n s hI=>?_) n h;show w_ _ A ((compTurn (.ListComp elt [⟨target,iter,ifs,0⟩] scope pos) 0 it z env).onRaise (fun x=>do Qbx x env;theTreesLotGoes x)) _ _ s;refine wpAny_noted ?_;rw[compTurn_list];refine a_ (QaH (a_ (Y7 (turn n s hI) (fun r s1 h1=>?_) fun _ _ h'=>h')));cases r with
|none=>exact n_ h1
|some v=>refine a_ (Y7 h1 (fun _ U Y=>?_) fun _ _ h'=>h');refine a_ (Y7 Y (fun _ s2 h2=>a_ (Y7 h2 (fun ok s3 h3=>?_) fun _ _ h'=>h')) fun _ _ h'=>h');cases ok with
 |false=>exact n_ ⟨rfl,h3⟩
 |true=>exact a_ (a_ (Y7 h3 (fun x s4 h4=>a_ (Y7 h4 (fun _ s5 h5=>n_ (n_ ⟨rfl,h5⟩)) fun _ _ h'=>h')) fun _ _ h'=>h'))
end
def lQ(X:Cx)(g:GE)(m:List Md)(ifs:List Expr)(f:FQ):Prop:=∀(pz:List (Addr×Obj))(s:h_)(σ:L2.St)(H:Hp)(Q:Bool->Hp->Prop),Inv X pz σ H s->tQ X g m f σ H Q ->w_ (B_ X.prog X.w) X.A (forIn ifs true fun c r=>if r=true then do let ok <-isTrue c X.env (eval c X.env);pure (ForInStep.yield ok)else pure (ForInStep.yield r)) (TP X pz σ Q) X.xe s
def fm:lQ X g m [] fun _=>.ok true:=fun pz s σ H Q I ⟨r,G,si,q⟩=>wpAny_tests_nil ⟨H,I,q G H (Grow.refl si.gok)⟩
def pX(h:SQ X g m c p):lQ X g m [c] p:=fun pz s σ H Q I q=>wpAny_tests_one (h pz s σ H Q I q)
def iz(ft:FT)(nl:Nat):Prop:=∀d r r1,ft d r=some r1->r1.length=r.length/\∀i,nl<=i->r1[i]? = r[i]?
def tF(ft:j9)(nl:Nat):Prop:=∀d r r1,ft d r=some r1->r1.length=r.length/\∀i,nl<=i->r1[i]? = r[i]?
def dI{i nl:Nat}(h:i<nl):iz (bY i) nl:=fun d r r1 e=>by cases e;exact⟨by simp,fun j hj=>by rw[b_ (by omega)]⟩
def oX{nl:Nat}:tF iQ nl:=fun ds r r1 e=>by cases ds with
|nil=>cases e;exact⟨rfl,fun _ _=>rfl⟩
|cons _ _=>cases e
def jm{ft:FT}{fts:j9}{nl:Nat}(h1:iz ft nl)(h2:tF fts nl):tF (fK ft fts) nl:=fun ds r r1 e=>by cases ds with
|nil=>cases e
|cons d ds=>have e':((ft d r).bind fun r'=>fts ds r')=some r1:=e;cases q:ft d r with
 |none=>rw[q]at e';cases e'
 |some r2=>rw[q]at e';obtain⟨a1,a2⟩:=h1 d r r2 q;obtain⟨b1,b2⟩:=h2 ds r2 r1 e';exact⟨b1.trans a1,fun i hi=>(b2 i hi).trans (a2 i hi)⟩
def ou{fts:j9}{nl:Nat}(h:tF fts nl):iz (iZ fts) nl:=fun d r r1 e=>by cases d with
|tup ds=>exact h ds r r1 e
|lst ds=>exact h ds r r1 e
|_=>cases e
variable{elt:Expr}{ifs:List Expr}{fe:FE}
section
variable{s2:h_}{J:It}{it:Addr}{tn:Nat->Heap->Prop}{ds vs:List D}{E:Value->h_->Prop}
def OE(i:Nat):(bT nl cap m)[i]?≠some Md.ow:=fun h=>by
 by_cases hi:i<nl
 .unfold bT at h;rw[Y4 (by simpa using hi),Zr]at h;split at h <;> cases h
 .unfold bT at h;rw[qk (by omega)]at h;cases e:cap[i-nl]? with
 |none=>rw[e]at h;cases h
 |some j=>rw[e]at h;have h':(if m.getD j Md.sh=Md.sh then Md.sh else Md.bw)=Md.ow:=E_ h;split at h' <;> cases h'
def Rq{i:Nat}(hi:i<nl)(d:D):(cF nl cap r)[i]?≠some (some d):=fun h=>by unfold cF at h;rw[Y4 (by simpa using hi),Zr]at h;split at h <;> cases h
def Eg(El:W.Frag->GH->Hp->GH->Hp->V->D->Prop)(X:Cx)(g:GE)(m:List Md)(f:FE):TE:=fun σ H Q=>∃r G,SI X g m r G σ H/\fin (f r) (fun d=>∀v G' H',Grow X.K G H G' H'->El X.K G H G' H' v d->Q v H') (XW X σ G H)
def Ca{El:W.Frag->GH->Hp->GH->Hp->V->D->Prop}{Rl:Addr->GH->Hp->List V->List D->Prop}(R0:∀p G H,Rl p G H [] [])(Rg:∀{p G H G' H' ws ds},Rl p G H ws ds->Grow X.K G H G' H'->Rl p G' H' ws ds)(Rn:∀{p G H ws ds},Rl p G H ws ds->ws.length=ds.length)(Ra:∀{p G H G' H' ws ds v d},Rl p G H ws ds->Grow X.K G H G' H'->Grow X.K G2 H2 G H->H p=some (.lst ws)->El X.K G H G' H' v d->Rl p G' (upd H' p (.lst (ws++[v]))) (ws++[v]) (ds++[d]))(hN:X.N.Nodup)(U1:X.calm=true)(sc:CompSc X scope N' nl cap)(h1:∀x c,cl.lookup x=some c->X.env.cells.lookup x=some c)(h2:∀x,(x,NameKind.free)∈scope.names->∃c,cl.lookup x=some c)(I2:Inv X pz σ H2 s2)(si:SI X g m r G2 σ H2)(T:Turn X.prog X.w X.K tg J fp it tn)(st:tn 0 s2.heap)(hf:∀b∈fp,eL X pz H2 b)(Y:YieldsC X.K J ds G2 H2)(hsz:ds.length<=sizeLine)(hg:∀C,SG (gz X s2 H2 N' scope cl C fp) ⟨G2,H2,fun _=>none⟩ (bT nl cap m) tg ft (bT nl cap m))(Vj:iz ft nl)(hq:∀C,lQ (gz X s2 H2 N' scope cl C fp) ⟨G2,H2,fun _=>none⟩ (bT nl cap m) ifs q)(he:∀C,PE (gz X s2 H2 N' scope cl C fp) elt (Eg El (gz X s2 H2 N' scope cl C fp) ⟨G2,H2,fun _=>none⟩ (bT nl cap m) fe))(Vc:gB ft q fe (cF nl cap r) ds=.ok vs){RR:Value->Addr->Qej->h_->Prop}(Vu:∀(p C:Addr)(s':h_)(H':Hp)(G':GH),Inv X pz σ H' s'->(∃mm,s'.heap.Ns C mm)->H' C=none->C≠X.env.locals->X.s₀.heap.objs.size<=C->(∀x c,X.env.cells.lookup x=some c->c≠C)->(∀z∈X.pn++pz,z.1≠C) ->Grow X.K G2 H2 G' H'->H2 p=none->(∃ws,H' p=some (.lst ws)/\G' p=none/\Rl p G' H' ws vs)->RR (.ref p) C (.ok .next) s'):w_ (B_ X.prog X.w) X.A (newList []) (fun U8 s3=>w_ (B_ X.prog X.w) X.A (newFunctionEnv scope X.env.globals cl [] X.env.qual none .none (some X.env)) (fun UY s4=>QbA (B_ X.prog X.w) X.A (.compStart (.ListComp elt [⟨tg,iter,ifs,0⟩] scope pos) 0 (.ref it) U8 { UY with scope:=Qdz scope X.env }) (RR U8 UY.locals) s4) E s3) E s2:=by
 refine Zk (wpAny_newFunctionEnv sc.nocell (by intro y hy;simp at hy) (fun h₁ KK IO=>?_) sc.kind)
 dsimp only at KK IO ⊢
 generalize UX:s2.heap.push { cls:=.type "list",dict:=none,data:=.seq ([]:List Value).toArray }=HH at KK IO ⊢;have hC:HH.objs.size=s2.heap.objs.size+1:=by rw[<-UX,Zj]
 have Va:s2.heap.objs.size≠HH.objs.size:=by rw[hC];exact G_ (ZT _)
 have Z:s2.heap.objs.size<=HH.objs.size:=by rw[hC];exact QcM _
 have BT:∀b,b<s2.heap.objs.size->b≠HH.objs.size/\b≠s2.heap.objs.size:=fun b hb=>⟨by rw[hC];exact G_ (Z6 hb),G_ hb⟩
 have old:∀b o,s2.heap.get? b=some o->h₁.get? b=some o:=fun b o e=>IO.extBut b o (BT b (z_ e)).1 (c_ _ (UX▸c_ _ e));have Vd:h₁.get? s2.heap.objs.size=some { cls:=.type "list",dict:=none,data:=.seq ([]:List Value).toArray }:=IO.extBut _ _ Va (c_ _ (UX▸t_ _ rfl));have Id:H2 s2.heap.objs.size=none:=I2.hok.fresh (y_ _);have LE:∀b∈fp,eL X pz H2 b/\b<s2.heap.objs.size:=fun b hb=>⟨hf b hb,by obtain⟨o,e,_⟩:=T.obj 0 s2.heap st b hb;exact z_ e⟩
 have ok:=Ml (fp:=fp) I2 sc h1 h2 LE Z;generalize U:gz X s2 H2 N' scope cl HH.objs.size fp=XX at ok;have Vg:G2 s2.heap.objs.size=none:=si.gok.isN Id;have w0:Grow X.K G2 H2 G2 (upd H2 s2.heap.objs.size (.lst [])):=Grow.new si.gok Id _;have Ve:dH X.prog X.w (upd H2 s2.heap.objs.size (.lst [])) h₁:=I2.hok.laid old (y_ _) ⟨Zf _,[],0,.nil,Vd⟩;have IC:Inv XX [] (fG nl cap σ) (upd H2 s2.heap.objs.size (.lst [])) { s2 with heap:=h₁,toks:=s2.toks+([]:List (Str×Value)).length }:=by
  subst U;refine Mg I2 ok sc h1 h2 hN rfl I2.bare old KK Z ?_ (fun b hb Cl=>?_) (Un.laid old (y_ _) Id) Ve
  .rw[bX (ZP Va)];exact I2.hok.fresh Z
  .rw[bX (BT b Cl).2];exact hb
 have SC:SI XX ⟨G2,H2,fun _=>none⟩ (bT nl cap m) (cF nl cap r) G2 (fG nl cap σ) (upd H2 s2.heap.objs.size (.lst [])):=by subst U;exact LH si w0
 have UW:tn 0 h₁:=T.keep _ _ _ st fun b _ o e=>old b o e;have ST:∀(H':Hp),(∀b∈fp,H' b=none)->∀b∈fp,eL XX [] H' b:=fun H' hn b hb=>by
  clear IC SC;subst U;obtain⟨z0,z1,z2,z3,z4,z5⟩:=hf b hb;refine⟨hn b hb,?_,?_,?_,?_,?_⟩
  .exact(BT b (LE b hb).2).1
  .intro hfs;rcases e_.mp (I2.stkSub b hfs)with z|z
   .exact z1 z
   .exact z2 z
  .exact .inl hb
  .exact fun x c e=>z4 x c (h1 x c e)
  .intro p hp;exact absurd (show p∈([]:List (Addr×Obj))from hp) (by simp)
 have eA:XX.A=X.A:=Eq.rec (motive:=fun z _=>z.A=X.A) rfl U;have eP:XX.prog=X.prog:=Eq.rec (motive:=fun z _=>z.prog=X.prog) rfl U;have eW:XX.w=X.w:=Eq.rec (motive:=fun z _=>z.w=X.w) rfl U;have eK:XX.K=X.K:=Eq.rec (motive:=fun z _=>z.K=X.K) rfl U;have eX:XX.xe=fun _ _=>False:=Eq.rec (motive:=fun z _=>z.xe=fun _ _=>False) rfl U;have eE:XX.env=QcR scope cl HH.objs.size X.env:=Eq.rec (motive:=fun z _=>z.env=QcR scope cl HH.objs.size X.env) rfl U;have eC:XX.calm=true:=Eq.rec (motive:=fun z _=>z.calm=true) U1 U;have eH:XX.H₀=H2:=Eq.rec (motive:=fun z _=>z.H₀=H2) rfl U;have U6:PG XX tg (tG XX ⟨G2,H2,fun _=>none⟩ (bT nl cap m) (bT nl cap m) ft):=Eq.rec (motive:=fun z _=>PG z tg (tG z ⟨G2,H2,fun _=>none⟩ (bT nl cap m) (bT nl cap m) ft)) (hg _).2 U;have hq':lQ XX ⟨G2,H2,fun _=>none⟩ (bT nl cap m) ifs q:=Eq.rec (motive:=fun z _=>lQ z ⟨G2,H2,fun _=>none⟩ (bT nl cap m) ifs q) (hq _) U;have U2:PE XX elt (Eg El XX ⟨G2,H2,fun _=>none⟩ (bT nl cap m) fe):=Eq.rec (motive:=fun z _=>PE z elt (Eg El z ⟨G2,H2,fun _=>none⟩ (bT nl cap m) fe)) (he _) U;have Vf:∀{H':Hp}{s':h_}{σ':L2.St}{G':GH}{ws:List V},Inv XX [] σ' H' s'->Grow X.K G2 H2 G' H'->H' s2.heap.objs.size=some (.lst ws)->G' s2.heap.objs.size=none->Rl s2.heap.objs.size G' H' ws vs->RR (.ref s2.heap.objs.size) HH.objs.size (.ok .next) s':=fun{H' s' σ' G' ws} J1 wg hpp hgp rs=>by
  clear IC SC ST U6 hq' U2 eA eP eW eK eX eE eC eH;subst U;have un:=J1.base;refine Vu _ _ s' H' G' ?_ (let⟨mm,hn,_⟩:=J1.loc;⟨mm,hn⟩) J1.free (ZV (F_ I2.lt Z)) (Y8 I2.sz Z) (fun x c e z=>?_) (fun z hz e=>?_) wg Id ⟨_,hpp,hgp,rs⟩
  .refine I2.call' J1.os un J1.hok J1.bare fun b hb=>?_;obtain⟨z0,z1,z2,z3,z4,z5⟩:=hf b hb;exact⟨z3,z1,z4,z5⟩
  .obtain⟨v,o,ho,_⟩:=I2.cell x c e;exact absurd (F_ (z_ ho) Z) (by rw[z];exact Zw _)
  .have:=(I2.pin z hz).1;exact absurd (F_ (z_ this) Z) (by rw[e];exact Zw _)
 have UV:QbA (B_ X.prog X.w) X.A (.compLoop (.ListComp elt [⟨tg,iter,ifs,0⟩] scope pos) 0 (.ref it) (.ref s2.heap.objs.size) (QcR scope cl HH.objs.size X.env)) (RR (.ref s2.heap.objs.size) HH.objs.size)
   { s2 with heap:=h₁,toks:=s2.toks+([]:List (Str×Value)).length }:=by
  refine OF (fun n s'=>∃(i:Nat)(σ':L2.St)(H':Hp)(G':GH)(ws:List V)(done rest:List D),Inv XX [] σ' H' s'/\SI XX ⟨G2,H2,fun _=>none⟩ (bT nl cap m) (cF nl cap r) G' σ' H'/\tn i s'.heap/\(∀b∈fp,H' b=none)/\Grow X.K G2 H2 G' H' /\H' s2.heap.objs.size=some (.lst ws)/\G' s2.heap.objs.size=none/\Rl s2.heap.objs.size G' H' ws done/\gB ft q fe (cF nl cap r) (ds.drop i)=.ok rest/\vs=done++rest/\done.length<=i/\i<=ds.length/\n=ds.length-i) ?_ ds.length
   ⟨0,_,_,G2,[],[],vs,IC,SC,UW,fun b hb=>?_,w0,cQ,Vg,R0 _ _ _,Vc,rfl,y_ _,Zf _,rfl⟩
  rotate_left
  .rw[bX (BT b (LE b hb).2).2];exact(hf b hb).1
  rintro n s3 ⟨i,σ3,H3,G3,ws,done,rest,I3,S3,st3,fr3,w3,hp3,hg3,rs3,hr3,hv3,hd3,hi3,rfl⟩
  have ld:∀{α:Type}{t:Sem α}{Q:α->h_->Prop}{s':h_}{E':Value->h_->Prop},w_ (B_ XX.prog XX.w) XX.A t Q XX.xe s'->w_ (B_ X.prog X.w) X.A t Q E' s':=fun h=>by rw[eP,eW,eA,eX]at h;exact Y7 h (fun _ _ z=>z) fun _ _ z=>z.elim
  by_cases Cl:i<ds.length
  .have hd:ds.drop i=ds[i]::ds.drop (i+1):=ZQ Cl;rw[hd]at hr3;unfold gB at hr3;have U7:=T.item XX eP eW eK eC i [] s3 σ3 H3 (QcC (B_ X.prog X.w) X.A (QcR scope cl HH.objs.size X.env) fun e s'=>RR (.ref s2.heap.objs.size) HH.objs.size (.error e) s') I3 (ST H3 fr3) st3 (Y.go G3 H3 i w3 Cl);rw[eA]at U7;refine bL U7 fun rr s4 ⟨u,hr,h4⟩=>?_;subst hr;refine bL h4 fun _ s5 ⟨x,H5,I5,r5,y5,st5,fr5⟩=>?_;obtain⟨G5,w5,Vo⟩:=Y.yld G3 H3 i x H5 ds[i] w3 y5 (o_ Cl);have Vp:=w3.trans w5;cases US:ft ds[i] (cF nl cap r)with
  |none=>rw[US]at hr3;cases hr3
  |some r1=>
    rw[US]at hr3;simp only[opt_some,bind_ok]at hr3;have Vh:=I5.pinned (ST H5 fr5) (T.obj _ _ st5);have S5:SI XX ⟨G2,H2,fun _=>none⟩ (bT nl cap m) (cF nl cap r) G5 σ3 H5:=S3.grow (by rw[eK];exact w5);have Vb:RG XX.K G5 x ds[i]:=by rw[eK];exact Vo
    have U4:=U6 _ s5 σ3 H5 x u (fun σ6 H6=>H6=H5/\SI XX ⟨G2,H2,fun _=>none⟩ (bT nl cap m) r1 G5 σ6 H5) Vh r5 ⟨cF nl cap r,G5,ds[i],S5,Vb,r1,US,fun σ6 Vs=>⟨rfl,Vs⟩⟩;rw[eE]at U4;refine bL (ld U4) fun _ s6 ⟨σ6,H6,I6,e6,S6⟩=>?_;subst e6;obtain⟨Vr,Vk⟩:=Vj _ _ _ US;cases UT:q r1 with
   |stuck=>rw[UT]at hr3;cases hr3
   |exc xx=>rw[UT]at hr3;cases hr3
   |ok b1=>
     rw[UT]at hr3;simp only[bind_ok]at hr3;have U9:=hq' _ s6 σ6 H6 (fun b H7=>b=b1/\∃G7,Grow X.K G5 H6 G7 H7) I6 ⟨r1,G5,S6,by rw[UT];exact fun G7 H7 w7=>⟨rfl,G7,by rw[eK]at w7;exact w7⟩⟩;rw[eE]at U9;refine bL (ld U9) fun b s7 ⟨H7,I7,eb,G7,w7⟩=>?_;subst eb;have S7:SI XX ⟨G2,H2,fun _=>none⟩ (bT nl cap m) r1 G7 σ6 H7:=S6.grow (by rw[eK];exact w7);have U0:=Vp.trans w7;have Tm:H7 s2.heap.objs.size=some (.lst ws):=w7.he _ _ (w5.he _ _ hp3);have U3:G7 s2.heap.objs.size=none:=by rw[w7.gf _ (by rw[w5.he _ _ hp3];simp),w5.gf _ (by rw[hp3];simp)];exact hg3
     have back:∀{UU:L2.St}{H8:Hp}{G8:GH}{s8:h_},Inv XX ([]++oH fp s5.heap) UU H8 s8->Inv XX [] UU H8 s8/\tn (i+1) s8.heap/\∀b∈fp,H8 b=none:=fun{UU H8 G8 s8} I8=>by refine⟨I8.unpinned,T.keep _ _ _ st5 fun b hb o e=>(I8.pin (b,o) (M_ _ (M_ _ (pv hb e)))).1,fun b hb=>?_⟩;obtain⟨o,e,_⟩:=T.obj _ _ st5 b hb;exact(I8.pin (b,o) (M_ _ (M_ _ (pv hb e)))).2.1
     have less:∀{UU:L2.St}{H8:Hp}{G8:GH},SI XX ⟨G2,H2,fun _=>none⟩ (bT nl cap m) r1 G8 UU H8->SI XX ⟨G2,H2,fun _=>none⟩ (bT nl cap m) (cF nl cap r) G8 UU H8:=fun h=>h.less Vr.symm fun j d hj=>by
      by_cases Vm:j<nl
      .exact absurd hj (Rq Vm d)
      .rw[Vk j (by omega)];exact hj
     cases b with
    |false=>rw[if_neg k_]at hr3 ⊢;obtain⟨Vt,t7,f7⟩:=back (G8:=G7) I7;exact⟨ds.length-(i+1),by omega,i+1,σ6,H7,G7,ws,done,rest,Vt,less S7,t7,f7,U0,Tm,U3,Rg rs3 (w5.trans w7),hr3,hv3,by omega,Cl,rfl⟩
    |true=>rw[if_pos rfl]at hr3 ⊢;cases Ty:fe r1 with
     |stuck=>rw[Ty]at hr3;cases hr3
     |exc xx=>rw[Ty]at hr3;cases hr3
     |ok d1=>rw[Ty]at hr3;simp only[bind_ok]at hr3;cases er:gB ft q fe (cF nl cap r) (ds.drop (i+1))with
      |stuck=>rw[er]at hr3;cases hr3
      |exc xx=>rw[er]at hr3;cases hr3
      |ok rest'=>
        rw[er]at hr3;simp only[bind_ok]at hr3;cases hr3;have U5:=U2 _ s7 σ6 H7 (fun v H8=>∃G8,Grow X.K G7 H7 G8 H8/\El X.K G7 H7 G8 H8 v d1) I7 ⟨r1,G7,S7,by rw[Ty];exact fun v G8 H8 w8 rv=>⟨G8,by rw[eK]at w8;exact w8,by rw[eK]at rv;exact rv⟩⟩;rw[eE]at U5;refine bL (ld U5) fun u8 s8 ⟨v8,H8,I8,r8,G8,w8,rv8⟩=>?_;have Vi:H8 s2.heap.objs.size=some (.lst ws):=w8.he _ _ Tm;have UZ:G8 s2.heap.objs.size=none:=by rw[w8.gf _ (by rw[Tm];simp)];exact U3
        have S8:SI XX ⟨G2,H2,fun _=>none⟩ (bT nl cap m) r1 G8 σ6 H8:=S7.grow (by rw[eK];exact w8);have hlen:=Rn rs3;have Vn:=pf (X:=XX) _ s8 σ6 H8 (.ref s2.heap.objs.size) [v8] (.ref s2.heap.objs.size) [u8] (fun v H9=>H9=upd H8 s2.heap.objs.size (.lst (ws++[v8]))) I8 rfl (.cons r8 .nil) ⟨_,ws,v8,rfl,rfl,Vi,by omega,rfl⟩;refine bL (ld Vn) fun u9 s9 ⟨v9,H9,I9,r9,e9⟩=>?_;subst e9;obtain⟨Vq,t9,f9⟩:=back (G8:=G8) I9;have Vl:=Ra (Rg rs3 (w5.trans w7)) w8 U0 Tm rv8;have LT:=U0.trans w8;refine⟨ds.length-(i+1),by omega,i+1,σ6,_,G8,ws++[v8],done++[d1],rest',Vq,less (S8.other UZ Id OE _),t9,f9,?_,cQ,UZ,Vl,er,by rw[hv3,Qcb];rfl,by rw[Y3,Qbt];omega,Cl,rfl⟩;refine⟨fun b e hb=>(LT.ok b e hb).mono (fun _ _ z=>z) fun o z=>?_,fun b o hb=>?_,LT.ge,LT.gf⟩
        .rw[bX (by rintro rfl;rw[UZ]at hb;cases hb)];exact z
        .rw[bX (by rintro rfl;rw[Id]at hb;cases hb)];exact LT.he b o hb
  .have e:i=ds.length:=by omega
   subst e;rw[QaV]at hr3;cases hr3;rw[Zl]at hv3;subst hv3;have dn:=T.done XX eP eW eK eC ds.length [] s3 σ3 H3 (QcC (B_ X.prog X.w) X.A (QcR scope cl HH.objs.size X.env) fun e s'=>RR (.ref s2.heap.objs.size) HH.objs.size (.error e) s') I3 (ST H3 fr3) st3 (Y.stop G3 H3 w3);rw[eA]at dn;refine bL dn fun rr s4 ⟨hr,I4⟩=>?_;subst hr;exact Vf I4 w3 hp3 hg3 rs3
 exact codeAny_compStart_list UV (T.self X.A 0 _ _ _ UW UV)
end
def sR:Res (List D)->Res (List D)
|.ok d=>.ok d
|_=>.stuck
@[simp] def noXL_ok(d:List D):sR (.ok d)=.ok d:=rfl
def eR(nl:Nat)(cap:List Nat)(fi:FI)(ft:FT)(q:FQ)(fe:FE):FE:=fun r=>(fi r).bind fun ds=>(dw (sz ds)).bind fun ds=>(sR (gB ft q fe (cF nl cap r) ds)).bind fun vs=>.ok (.lst vs)
section
variable{spos:Pos}{fi:FI}
def P7{r:aL}{d:D}(h:eR nl cap fi ft q fe r=.ok d):∃ds vs,fi r=.ok ds/\ds.length<=sizeLine/\gB ft q fe (cF nl cap r) ds=.ok vs/\d=.lst vs:=by unfold eR at h;cases e1:fi r with
|ok ds=>rw[e1,bind_ok]at h;cases e2:sz ds with
 |none=>rw[e2]at h;cases h
 |some ds'=>obtain⟨rfl,hl⟩:=tX e2;rw[e2,opt_some,bind_ok]at h;cases e3:gB ft q fe (cF nl cap r) ds' with
  |ok vs=>rw[e3,noXL_ok,bind_ok]at h;cases h;exact⟨ds',vs,rfl,hl,e3,rfl⟩
  |exc x=>rw[e3]at h;cases h
  |stuck=>rw[e3]at h;cases h
|exc x=>rw[e1]at h;cases h
|stuck=>rw[e1]at h;cases h
def Jh{r:aL}{P:D->Prop}{x:D->Prop}(h:fin (eR nl cap fi ft q fe r) P x):fin (fi r) (fun ds=>∃vs,ds.length<=sizeLine/\gB ft q fe (cF nl cap r) ds=.ok vs/\P (.lst vs)) x:=by unfold eR at h;refine cn (cw h) fun ds h1=>?_;obtain⟨ds',e2,h2⟩:=dQ (cw h1);obtain⟨rfl,hl⟩:=tX e2;cases e3:gB ft q fe (cF nl cap r) ds' with
|ok vs=>rw[e3]at h2;exact⟨vs,hl,rfl,h2⟩
|exc x=>rw[e3]at h2;exact h2.elim
|stuck=>rw[e3]at h2;exact h2.elim
def CompSc.clo{pz:List (Addr×Obj)}{σ:L2.St}{H:Hp}{s:h_}(sc:CompSc X scope N' nl cap)(ok:X.Ok):∃cl,Qeo scope X.env=pure cl/\(∀x c,cl.lookup x=some c->X.env.cells.lookup x=some c)/\(∀x,(x,NameKind.free)∈scope.names->∃c,cl.lookup x=some c):=Sc fun y hy hf=>ok.has y.1 (sc.freeK y hy hf)
def fT(hN:X.N.Nodup)(z:X.calm=true)(sc:CompSc X scope N' nl cap)(hi:iu X g m tg iter fi)(hg:∀s0 H0 cl C fp g',SG (gz X s0 H0 N' scope cl C fp) g' (bT nl cap m) tg ft (bT nl cap m))(KK:iz ft nl)(hq:∀s0 H0 cl C fp g',lQ (gz X s0 H0 N' scope cl C fp) g' (bT nl cap m) ifs q)(he:∀s0 H0 cl C fp g',SE (gz X s0 H0 N' scope cl C fp) g' (bT nl cap m) elt fe)(hs:∀x,Zq iter X.env x=pure x:=by intro _;rfl):SO X g m (.ListComp elt [⟨tg,iter,ifs,0⟩] scope pos) (eR nl cap fi ft q fe):=by
 intro pz s σ H Q I h;obtain⟨r,G,si,k⟩:=h;obtain⟨cl,hcl,h1,h2⟩:=sc.clo (pz:=pz) (σ:=σ) (H:=H) (s:=s) I.ok;have k1:=Jh k;rw[eval_ListComp];refine Qa4 (use:=none) rfl hs hcl sc.kind sc.names (bL (hi pz s σ H (fun J H'=>∃G' ds vs,Grow X.K G H G' H'/\YieldsC X.K J ds G' H'/\ds.length<=sizeLine/\gB ft q fe (cF nl cap r) ds=.ok vs /\(∀a G' H',Grow X.K G H G' H'->H a=none->Own X.K G' H' a (.lst vs)->Q (.ref a) H')) I ⟨r,G,si,cn k1 fun ds ⟨vs,z1,z2,z3⟩ J G' H' w y=>⟨G',ds,vs,w,y,z1,z2,z3⟩⟩) fun v s1 hv=>bL hv fun itv s2 BT=>?_);obtain⟨it,fp,tn,J,H2,rfl,I2,T,st,hf,G2,ds,vs,w2,Y,hsz,U,hQ⟩:=BT;refine Ca (El:=fun K _ _ G' _ v d=>RG K G' v d) (Rl:=fun _ G _ ws ds=>cR X.K G ws ds) (fun _ _ _=>.nil) (fun h w=>h.mono w.ge) Paired.length (fun h w _ _ e=>Paired.snoc (h.mono w.ge) e) (RR:=fun Z C=>compPost (B_ X.prog X.w) X.A X.xe none (EP X pz σ Q) Z C) hN z sc h1 h2 I2 (si.grow w2) T st hf Y hsz (fun C=>hg _ _ _ _ _ _) KK (fun C=>hq _ _ _ _ _ _) (fun C=>he _ _ _ _ _ _) U ?_;intro p C s' H' G' I' Cl LT LE ld Id IO w' hp ⟨ws,o1,o2,o3⟩;have ho:Own X.K G' H' p (.lst vs):=⟨o2,.lst o1 o3⟩
 obtain⟨mm,hn⟩:=Cl;refine⟨mm,hn,fun h' hsb=>⟨.ref p,H',?_,rfl,hQ p G' H' (w2.trans w') (w2.back hp) ho⟩⟩;exact I'.turned (it:=C) (t':=s'.toks) (fun b o hb e=>hsb.extBut b o hb e) LT LE.symm.symm (.inr ld) Id IO
def pi(i:Nat){y:Str}(hN:X.N.Nodup)(U:X.calm=true)(hy:X.N[i]? = some y)(ld:X.env.scope.names.lookup y=some .local)(sc:CompSc X scope N' nl cap)(hi:iu X g m tg iter fi)(hg:∀s0 H0 cl C fp g',SG (gz X s0 H0 N' scope cl C fp) g' (bT nl cap m) tg ft (bT nl cap m))(LT:iz ft nl)(hq:∀s0 H0 cl C fp g',lQ (gz X s0 H0 N' scope cl C fp) g' (bT nl cap m) ifs q)(he:∀s0 H0 cl C fp g',SE (gz X s0 H0 N' scope cl C fp) g' (bT nl cap m) elt fe)(UT:Qaw (.ListComp elt [⟨tg,iter,ifs,0⟩] scope pos) (some (.Name y pos')) spos.line X.env=pure true:=by rfl)(hs:∀x,Zq iter X.env x=pure x:=by intro _;rfl):SS X g ro mb m (.Assign [.Name y pos'] (.ListComp elt [⟨tg,iter,ifs,0⟩] scope pos) spos) (cU m i (eR nl cap fi ft q fe)) (m.set i .ow):=by
 refine⟨by simp,?_⟩;intro pz s σ H D0 I h;obtain⟨r,G,si,k⟩:=h;obtain⟨cl,hcl,h1,h2⟩:=sc.clo (pz:=pz) (σ:=σ) (H:=H) (s:=s) I.ok;have k1:=Jh (gE si (m':=m.set i .ow) (by simp) k);rw[QcH _ _ _ _ UT];refine a_ (QaH (a_ ?_));show w_ _ X.A (do let _ <-comprehension (.ListComp elt [⟨tg,iter,ifs,0⟩] scope pos) scope X.env _ (newList []) false (eval iter X.env) (some (Qax (.Name y pos') X.env))) _ _ s;refine a_ (Y7 (Qa4 (use:=some (Qax (.Name y pos') X.env)) (Q:=fun _ s'=>SP X pz D0 .next s') rfl hs hcl sc.kind sc.names (bL (hi pz s σ H (fun J H'=>∃G' ds vs,Grow X.K G H G' H'/\YieldsC X.K J ds G' H'/\ds.length<=sizeLine/\gB ft q fe (cF nl cap r) ds=.ok vs /\(∀σ' G' H',bO G G'->SI X g (m.set i .ow) (r.set i (some (.lst vs))) G' σ' H'->D0.nx σ' H')) I ⟨r,G,si,cn k1 fun ds ⟨vs,z1,z2,z3⟩ J G' H' w y=>⟨G',ds,vs,w,y,z1,z2,z3⟩⟩) fun v s1 hv=>bL hv fun itv s2 IO=>?_)) (fun _ s' hq=>n_ (n_ hq)) fun _ _ e=>e);obtain⟨it,fp,tn,J,H2,rfl,I2,T,st,hf,G2,ds,vs,w2,Y,hsz,Cl,hQ⟩:=IO;refine Ca (El:=fun K _ _ G' _ v d=>RG K G' v d) (Rl:=fun _ G _ ws ds=>cR X.K G ws ds) (fun _ _ _=>.nil) (fun h w=>h.mono w.ge) Paired.length (fun h w _ _ e=>Paired.snoc (h.mono w.ge) e) (RR:=fun ST C=>compPost (B_ X.prog X.w) X.A X.xe (some (Qax (.Name y pos') X.env)) (fun _ s'=>SP X pz D0 .next s') ST C) hN U sc h1 h2 I2 (si.grow w2) T st hf Y hsz (fun C=>hg _ _ _ _ _ _) LT (fun C=>hq _ _ _ _ _ _) (fun C=>he _ _ _ _ _ _) Cl ?_;intro p C s' H' G' I' US UU Z LE BT KK w' hp ⟨ws,o1,o2,o3⟩;have ho:Own X.K G' H' p (.lst vs):=⟨o2,.lst o1 o3⟩
 obtain⟨mm,hn⟩:=US;show w_ _ X.A (Qax (.Name y pos') X.env (.ref p)) _ _ s';refine Qb9 (BP I' hN hy (.inl ld) (v:=.ref p) rfl (fun s'' Ty ⟨a,hsb,ha⟩=>?_) (.inr ld));have Tm:C≠a:=by
  rcases ha with z|z
  .rw[z];exact Z
  .exact(BT y a z).symm
 refine⟨mm,hn.sameBut hsb Tm,fun h' Id=>?_⟩;refine⟨_,H',Ty.turned (it:=C) (t':=s''.toks) (fun b o hb e=>Id.extBut b o hb e) UU Z (.inr LE) BT KK,?_⟩;exact hQ _ G' H' (w2.trans w').ge (si.setN (w2.trans w') i (w2.back hp) ho)
end
def jT(K:W.Frag)(r:V->List V->Hp->VK->Prop)(mk:D->List D->Option D):Prop:=∀(G:GH)(H:Hp)(a:Addr)(d:D)(vs:List V)(ds:List D)(d':D)(Q:VK),bW K G H->Own K G H a d->cR K G vs ds->mk d ds=some d' ->(∀o',OwnO K G (upd H a o') a d'->Q .non (upd H a o'))->r (.ref a) vs H Q
def yJ(T:String):D->Bool
|.lst _=>T == "list"
|.dic _=>T == "dict"
|_=>false
def f8(T:String)(m:List Md)(i:Nat)(fl:aL->Res (List D))(mk:D->List D->Option D):FS:=fun r=>match r[i]? with
|some (some d)=>if yJ T d=true then onE m r (fl r) fun ds=>(match mk d ds with
 |some d'=>.nx (r.set i (some d'))
 |none=>.stuck)else .stuck
|_=>.stuck
def Nz{K:W.Frag}{G:GH}{H:Hp}{a:Addr}{d:D}{T:String}(o:Own K G H a d)(t:yJ T d=true):pG K T (.ref a) H:=by cases o.ob with
|lst r s=>exact .inl ⟨Z5 t,_,cy.of r⟩
|dic r s=>exact .inr (.inr (.inl ⟨Z5 t,.inl ⟨_,.inl r⟩⟩))
variable{o:Expr}
section
variable{fb:FE}{apos cpos:Pos}{x name:Str}{R:V->List V->Hp->VK->Prop}{mk:D->List D->Option D}
def QC(i:Nat)(hm:m[i]? = some .ow)(hk:jT X.K R mk){D0:Ends}{σ:L2.St}{H:Hp}(h:tS X g ro m m mb (f8 T m i fl mk) D0 σ H):∃v,σ[i]? = some (some v)/\pG X.K T v H/\tL X g m fl σ H fun xs H2=>R v xs H2 fun _ H1=>D0.nx σ H1:=by obtain⟨r,G,si,k⟩:=h;unfold f8 at k;cases er:r[i]? with
|none=>simp only[er]at k;exact(show False from k).elim
|some oo=>cases oo with
 |none=>simp only[er]at k;exact(show False from k).elim
 |some d=>
   simp only[er]at k;by_cases ht:yJ T d=true
   .rw[if_pos ht]at k;obtain⟨a,h1,h2,h3⟩:=si.mut hm er;refine⟨_,h1,Nz h2 ht,r,G,si,cn (gE si rfl k) fun ds k2 vs G' H' w rs=>?_⟩;cases em:mk d ds with
   |none=>simp only[em]at k2;exact(show False from k2).elim
   |some d'=>simp only[em]at k2;obtain⟨a',z,U,h3'⟩:=(si.grow w).mut hm er;rw[h1]at z;cases z;exact hk G' H' a d vs ds d' _ w.ok U rs em fun o' ob=>k2 σ G' _ w.ge (h3' o' d' ob)
   .rw[if_neg ht]at k;exact(show False from k).elim
def lW(i:Nat)(hm:m[i]? = some .ow)(pa:Qdi T)(slot:Slot T name id)(Id:typeOf (.builtin id)=pure (.type "method_descriptor"))(Cl:nN X id R)(hk:jT X.K R mk)(hN:X.N[i]? = some x)(hv:gA X.env.scope x)(ha:SA X g m (e::es) fl)(hd:(x==("__debug__" : Str))=false:=by decide)(ld:(x==("__classdict__" : Str))=false:=by decide)(U:Qac (.Name x pos') name X.env (eval (.Name x pos') X.env)=eval (.Name x pos') X.env:=by rfl)(Z:((backTo cpos (f_ (e::es) X.env)).all (fun x=>! x.1)&&(QbX cpos (QaP [] X.env)).all (fun x=>x.1.isSome)&&decide ((e::es).length+([]:List Qcy).length+(if ([]:List Qcy).isEmpty then 0 else 1)<30))=true:=by rfl)(Y:(apos.endLine==cpos.line)=true:=by rfl)(BT:f_ (e::es) X.env=(false,eval e X.env)::f_ es X.env:=by rfl)(z:(backTo cpos (f_ es X.env)).any (·.1)=false:=by rfl):SS X g ro mb m (.Expr (.Call (.Attribute (.Name x pos') name apos) (e::es) [] cpos) pos) (f8 T m i fl mk) m:=⟨rfl,PS.imp (uZ (zX pa slot Id Cl (gP hN hv hd ld) ha U Z Y BT z)) fun D0 σ H h=>QC i hm hk h⟩
def appD:D->List D->Option D
|.lst ds,[d]=>if ds.length<sizeLine then some (.lst (ds++[d]))else none
|_,_=>none
def uO{K:W.Frag}:jT K Hr appD:=by
 intro G H a d vs ds d' Q gk ow rs e q;unfold appD at e;split at e
 .split at e
  .rename_i hl;cases e;cases ow.ob with
  |lst r s=>cases rs with
   |cons r1 t=>cases t;have:=Paired.length s;exact⟨a,_,_,rfl,rfl,r,by omega,q _ (.lst cQ (Paired.snoc s r1))⟩
  .cases e
 .cases e
def Paired.rev{α β:Type}{F:α->β->Prop}:∀{l:List α}{r:List β},Paired F l r->Paired F l.reverse r.reverse
|_,_,.nil=>.nil
|_,_,.cons h t=>by rw[Qbn,Qbn];exact Paired.snoc (Paired.rev t) h
def yW(x:Int)(n:Nat):Nat:=if x<0 then(x+(n:Int)).toNat else min x.toNat n
def dF{α:Type}(xs:List α)(x:Int)(y:α):List α:=xs.take (yW x xs.length)++y::xs.drop (yW x xs.length)
def Ic:V->List V->Hp->VK->Prop:=fun x vs H Q=>∃l xs i y,x=.ref l/\vs=[.int i,y]/\H l=some (.lst xs)/\-(2^63)<=i/\i<2^63/\xs.length<sizeLine/\Q .non (upd H l (.lst (dF xs i y)))
def RL:nN X "list.insert" Ic:=by
 intro pz s σ H x vs v us Q I rx rv h;obtain⟨l,xs,i,y,rfl,rfl,hH,h1,h2,hz,q⟩:=h;cases rx;obtain⟨u,w',rfl,⟨t,rfl⟩,ry⟩:=uF rv;obtain⟨z,its,n,r,hl,e⟩:=I.lstM hH;have U:¬(! Qb0 i)=true:=by rw[fitsIndex_both h1 h2];exact k_
 refine QaB Qci ⟨_,e,rfl⟩ PySem.F.entry_list_insert (PySem.F.args_list_insert_3 _ _ _) (AutoListH.list_insert_list_int_val_1 l its.toArray n i t w' U (by rw[u_];omega)) ⟨e,?_⟩;refine⟨.non,_,I.lset (its':=dF its i w') hH e ?_ ?_ ?_,rfl,q⟩
 .show((its.toArray.extract 0 (if i<0 then(i+((its.toArray.size:Nat):Int)).toNat else min i.toNat its.toArray.size)).push w'++its.toArray.extract (if i<0 then(i+((its.toArray.size:Nat):Int)).toNat else min i.toNat its.toArray.size))=(dF its i w').toArray;rw[u_];unfold dF yW;generalize(if i<0 then(i+((its.length:Nat):Int)).toNat else min i.toNat its.length)=k;apply Array.ext';simp;exact Qbo (by rw[Qbv];exact y_ _)
 .unfold dF;rw[hl];exact aN.append (r.take _) (.cons ry (r.drop _))
 .unfold dF;rw[Y3,T_,Qad,Qbv];omega
def insD:D->List D->Option D
|.lst ds,[.int i,d]=>if ds.length<sizeLine/\-(2^63)<=i/\i<2^63 then some (.lst (dF ds i d))else none
|_,_=>none
def Ni{α β:Type}{F:α->β->Prop}{l:List α}{r:List β}{x:α}{y:β}(h:Paired F l r)(i:Int)(z:F x y):Paired F (dF l i x) (dF r i y):=by unfold dF;rw[Paired.length h];exact Paired.app (Paired.tk _ h) (.cons z (Paired.dr _ h))
def Nj{K:W.Frag}:jT K Ic insD:=by
 intro G H a d vs ds d' Q gk ow rs e q;unfold insD at e;split at e
 .split at e
  .rename_i hl;cases e;cases ow.ob with
  |lst r s=>cases rs with
   |cons r1 t=>cases t with
    |cons r2 t=>cases t;have:=Paired.length s;exact⟨a,_,_,_,rfl,by rw[r1.int gk],r,hl.2.1,hl.2.2,by omega,q _ (.lst cQ (Ni s _ r2))⟩
  .cases e
 .cases e
end
def dZ:D->Bool
|.non=>true
|.bl _=>true
|.int _=>true
|.str _=>true
|_=>false
def gQ:D->V
|.non=>.non
|.bl b=>.bl b
|.int i=>.int i
|.str x=>.str x
|_=>.non
def gZ(a b:D):Bool:=i0 (gQ a) (gQ b)
def RB.flat(h:RB K G H v d)(gk:bW K G H)(hf:dZ d=true):v=gQ d/\hV v=true:=by cases d with
|non=>rw[h.non gk];exact⟨rfl,rfl⟩
|bl b=>rw[h.bl gk];exact⟨rfl,rfl⟩
|int i=>rw[h.int gk];exact⟨rfl,rfl⟩
|str x=>rw[h.str gk];exact⟨rfl,rfl⟩
|_=>cases hf
def E6{xs:List V}{ds:List D}(h:cR K G xs ds)(gk:bW K G H)(hf:ds.all dZ=true):xs=ds.map gQ/\xs.all hV=true:=by induction h with
|nil=>exact⟨rfl,rfl⟩
|cons r t ih=>rw[Qas,P_]at hf;obtain⟨e1,e2⟩:=RB.flat (H:=H) r.rb gk hf.1;obtain⟨e3,e4⟩:=ih hf.2;exact⟨by rw[U_,<-e3,<-e1],by rw[Qas,e2,e4];rfl⟩
def gJ:D->Option bH
|.int i=>some (.inl i)
|.str x=>some (.inr x)
|_=>none
def gL(kvs:List (bH×D))(k:bH):Bool:=kvs.any fun kv=>decide (kv.1=k)
def cM(kvs:List (bH×D))(k:bH):Option D:=(kvs.find? fun kv=>decide (kv.1=k)).map (·.2)
def inB(x c:D):Option Bool:=match c with
|.lst ds=>if dZ x=true/\ds.all dZ=true then some (ds.any fun y=>gZ y x)else none
|.tup ds=>if dZ x=true/\ds.all dZ=true then some (ds.any fun y=>gZ y x)else none
|.dic kvs=>(gJ x).map (gL kvs)
|.str y=>match x with
 |.str z=>some (!(Z4 y z 0 y.length 1).isEmpty)
 |_=>none
|_=>none
def jN(x c:D):Option D:=(inB x c).map .bl
def gY(x c:D):Option D:=(inB x c).map fun b=>.bl (! b)
def F6{K:W.Frag}{G:GH}{k:bH}{ps:List (bH×V)}{kvs:List (bH×D)}(h:gS K G ps kvs)(d:D)(e:cM kvs k=some d):∃v,eu ps k=some v/\RG K G v d:=by induction h with
|nil=>cases e
|@cons p q ps kvs r t ih=>
  obtain⟨k1,v1⟩:=p;obtain⟨k2,d2⟩:=q;obtain⟨e1,r1⟩:=r;have z:k1=k2:=e1;subst z;by_cases hk:k1=k
  .subst hk;have:d2=d:=by simpa[cM,R_]using e
   subst this;exact⟨v1,vO rfl,r1⟩
  .have e':cM kvs k=some d:=by simpa[cM,R_,hk]using e
   obtain⟨v,h1,h2⟩:=ih e';exact⟨v,by rw[qG hk];exact h1,h2⟩
def Q8{K:W.Frag}{G:GH}{k:bH}{ps:List (bH×V)}{kvs:List (bH×D)}(h:gS K G ps kvs)(e:cM kvs k=none):eu ps k=none:=by induction h with
|nil=>rfl
|@cons p q ps kvs r t ih=>
  obtain⟨k1,v1⟩:=p;obtain⟨k2,d2⟩:=q;obtain⟨e1,r1⟩:=r;have z:k1=k2:=e1;subst z;by_cases hk:k1=k
  .subst hk;simp[cM,R_]at e
  .have e':cM kvs k=none:=by simpa[cM,R_,hk]using e
   rw[qG hk];exact ih e'
def L6(kvs:List (bH×D))(k:bH):gL kvs k=(cM kvs k).isSome:=by induction kvs with
|nil=>rfl
|cons p r ih=>
  by_cases e:p.1=k
  .simp[gL,cM,R_,e]
  .have h1:gL (p::r) k=gL r k:=by simp[gL,e]
   have h2:cM (p::r) k=cM r k:=by simp[cM,R_,e]
   rw[h1,h2,ih]
def Ar{K:W.Frag}{G:GH}{H:Hp}{v:V}{d:D}{k:bH}(gk:bW K G H)(h:RB K G H v d)(e:gJ d=some k):v=kV k:=by cases d with
|int i=>cases e;exact h.int gk
|str x=>cases e;exact h.str gk
|_=>cases e
section
variable{fb:FE}
def nk(neg:Bool):R2:=fun y x H Q=>∃a o,x=.ref a/\i9 H a y o/\Q (.bl (if neg then ! o.isSome else o.isSome)) H
def Nc(hu:X.A.units+1<Qag):cu X (Y6 .In) (nk false):=by intro pz s σ H y x u v Q I ry rx h;obtain⟨a,oo,rfl,hg,q⟩:=h;cases rx;exact EN hu I hg ry fun s' I'=>⟨.bl _,H,I',rfl,q⟩
def PC(hu:X.A.units+1<Qag):cu X (Y6 .NotIn) (nk true):=by intro pz s σ H y x u v Q I ry rx h;obtain⟨a,oo,rfl,hg,q⟩:=h;cases rx;exact OJ hu I hg ry fun s' I'=>⟨.bl _,H,I',rfl,q⟩
def iX(K:W.Frag)(neg:Bool):R2:=fun x y H Q=>EA K neg x y H Q\/nk neg x y H Q\/∃i j,x=.str i/\y=.str j/\Q (.bl (if neg then !(!(Z4 j i 0 j.length 1).isEmpty)else !(Z4 j i 0 j.length 1).isEmpty)) H
def Nb(hu:X.A.units+1<Qag):cu X (Y6 .In) (iX X.K false):=cu.or Rv (cu.or (Nc hu) Rw)
def Ox(hu:X.A.units+1<Qag):cu X (Y6 .NotIn) (iX X.K true):=cu.or Tr (cu.or (PC hu) Ts)
def HC{K:W.Frag}(neg:Bool):fH K (iX K neg) (fun x c=>(inB x c).map fun b=>.bl (if neg then ! b else b)):=by
 intro G H v1 v2 d1 d2 d Q gk r1 r2 e q;have seq:∀{xs:List V}{ds:List D}{p:Addr},cR K G xs ds->v2=.ref p->(cy K H p xs\/dy K H p xs)->dZ d1=true->ds.all dZ=true->d=.bl (if neg then !(ds.any fun y=>gZ y d1)else ds.any fun y=>gZ y d1)->iX K neg v1 v2 H Q:=fun{xs ds p} rs e2 hs hf hfs ed=>by
  obtain⟨e1,f1⟩:=RB.flat r1 gk hf;obtain⟨e3,f3⟩:=E6 rs gk hfs;refine .inl ⟨p,xs,e2,hs,f1,f3,q _ G H (Grow.refl gk) ?_⟩;have:yM v1 xs=ds.any fun y=>gZ y d1:=by unfold yM;rw[e3,QaD,e1];rfl
  rw[this,ed];exact .scl (.bl _)
 cases d2 with
|lst ds=>
  by_cases hc:dZ d1=true/\ds.all dZ=true
  .simp only[inB,if_pos hc,Z8]at e;obtain⟨p,xs,e2,hs,rs⟩:=r2.lst gk;exact seq rs e2 (.inl hs) hc.1 hc.2 (E_ e).symm
  .simp only[inB,if_neg hc,Qd4]at e;cases e
|tup ds=>
  by_cases hc:dZ d1=true/\ds.all dZ=true
  .simp only[inB,if_pos hc,Z8]at e;obtain⟨p,xs,e2,hs,rs⟩:=r2.tup gk;exact seq rs e2 (.inr hs) hc.1 hc.2 (E_ e).symm
  .simp only[inB,if_neg hc,Qd4]at e;cases e
|dic kvs=>simp only[inB]at e;cases ek:gJ d1 with
 |none=>rw[ek]at e;cases e
 |some k=>
   rw[ek]at e;cases e;obtain⟨p,ps,rfl,hs,rs⟩:=r2.dic gk;refine .inr (.inl ⟨p,eu ps k,rfl,by rw[Ar gk r1 ek];exact .inl ⟨ps,k,hs,rfl,rfl⟩,q _ G H (Grow.refl gk) ?_⟩);have:(eu ps k).isSome=gL kvs k:=by rw[L6];cases eg:cM kvs k with
   |none=>rw[Q8 rs eg];rfl
   |some d=>obtain⟨v,h1,_⟩:=F6 rs d eg;rw[h1];rfl
   rw[this];exact .scl (.bl _)
|str y=>cases d1 with
 |str z=>cases e;exact .inr (.inr ⟨z,y,r1.str gk,r2.str gk,q _ G H (Grow.refl gk) (.scl (.bl _))⟩)
 |_=>cases e
|_=>cases e
def Lr{K:W.Frag}:fH K (iX K false) jN:=by
 have h:=HC (K:=K) false;have e:(fun x c=>(inB x c).map fun b=>D.bl (if false=true then ! b else b))=jN:=by funext x c;unfold jN;cases inB x c <;> rfl
 rw[e]at h;exact h
def M8{K:W.Frag}:fH K (iX K true) gY:=by
 have h:=HC (K:=K) true;have e:(fun x c=>(inB x c).map fun b=>D.bl (if true=true then ! b else b))=gY:=by funext x c;unfold gY;cases inB x c <;> rfl
 rw[e]at h;exact h
def K3(hu:X.A.units+1<Qag)(ha:SB X g m a fa)(hb:SB X g m b fb)(hm:Qab .NotIn b=false:=by rfl):SE X g m (.Compare a [.NotIn] [b] pos) (f2 fa fb gY):=lh (Ox hu) M8 ha hb hm
def nr(hu:X.A.units+1<Qag)(ha:SB X g m a fa)(hb:SB X g m b fb)(hm:Qab .In b=false:=by rfl):SQ X g m (.Compare a [.In] [b] pos) (dY (f2 fa fb jN)):=nZ (Nb hu) Lr ha hb hm
def sU:D->D->Option D
|.non,.non=>some (.bl true)
|_,.non=>some (.bl false)
|_,_=>none
def RB.isnon{K:W.Frag}{G:GH}{H:Hp}{v:V}{d:D}(gk:bW K G H)(h:RB K G H v d):(v=.non↔d=.non):=by
 constructor
 .intro e;subst e;rcases h with h|⟨a,e,_⟩
  .cases h with
  |scl s=>cases s;rfl
  .cases e
 .intro e;subst e;exact h.non gk
def Fy{K:W.Frag}:fH K (fun x y H Q=>y=.non/\Q (.bl (decide (x=.non))) H) sU:=by intro G H v1 v2 d1 d2 d Q gk r1 r2 e q;have hn:=r1.isnon gk;cases d2 with
|non=>refine⟨r2.non gk,q _ G H (Grow.refl gk) ?_⟩;cases d1 with
 |non=>cases e;rw[decide_eq_true (hn.mpr rfl)];exact .scl (.bl _)
 |_=>cases e;rw[decide_eq_false (fun z=>by have:=hn.mp z;cases this)];exact .scl (.bl _)
|_=>cases d1 <;> cases e
def Eo(ha:SB X g m a fa)(hb:SB X g m b fb):SE X g m (.Compare a [.Is] [b] pos) (f2 fa fb sU):=lh Ga Fy ha hb (jA _)
def nq(ha:SB X g m a fa)(hb:SB X g m b fb):SQ X g m (.Compare a [.Is] [b] pos) (dY (f2 fa fb sU)):=nZ Ga Fy ha hb (jA _)
end
end DL
section
namespace DL
open PySem PySem.Spec PyProof.Rows L2
variable{X:Cx}{g:GE}{m mb:List Md}{e a b o c:Expr}{f fa fc:FE}{pos pos':Pos}
section
variable{fb:FE}{p1 p2:Pos}{ro:Bool}{x:Str}
def sM:R2:=fun x y H Q=>∃a v,x=.ref a/\i9 H a y (some v)/\Q v H
def Nm(hu:X.A.units+1<Qag):jU X sM:=by intro value slice pz s σ H x y v u Q I rx ry h hs;obtain⟨a,w,rfl,hg,q⟩:=h;cases rx;exact tail_any (To I hg) PySem.F.slot_dict_getitem.lookup (Q6 hu I hg ry fun w' s' I' rw'=>⟨w,H,I',rw',q⟩) hs
def bP:D->D->Option D
|.dic kvs,k=>(gJ k).bind (cM kvs)
|c,k=>ixD c k
def Nl{K:W.Frag}:fH K (fun x y H Q=>sM x y H Q\/Ez K x y H Q) bP:=by intro G H v1 v2 d1 d2 d Q gk r1 r2 e q;cases d1 with
|dic kvs=>obtain⟨a,ps,rfl,hs,rs⟩:=r1.dic gk;have e':(gJ d2).bind (cM kvs)=some d:=e;cases ek:gJ d2 with
 |none=>rw[ek]at e';cases e'
 |some k=>rw[ek]at e';obtain⟨v,h1,h2⟩:=F6 rs d e';refine .inl ⟨a,v,rfl,?_,q v G H (Grow.refl gk) h2⟩;rw[Ar gk r2 ek,<-h1];exact .inl ⟨ps,k,hs,rfl,rfl⟩
|lst ds=>exact .inr (yY G H v1 v2 _ d2 d Q gk r1 r2 e q)
|tup ds=>exact .inr (yY G H v1 v2 _ d2 d Q gk r1 r2 e q)
|str ds=>exact .inr (yY G H v1 v2 _ d2 d Q gk r1 r2 e q)
|_=>cases e
def gN(hu:X.A.units+1<Qag)(ha:SB X g m a fa)(hb:SB X g m b fb)(hs:vF b:=by intro _ _;rfl):SE X g m (.Subscript a b pos) (f2 fa fb bP):=zW Nl (Fq (jU.or (Nm hu) MU) ha hb hs)
def Aw:SO X g m (.Dict [] [] pos) fun _=>.ok (.dic []):=PE.imp QR fun σ H Q ⟨r,G,si,q⟩ p hp=>q p G _ (Grow.new si.gok hp _) hp ⟨si.gok.isN hp,.dic cQ .nil⟩
def d4(kvs:List (bH×D))(k:bH)(d:D):List (bH×D):=if (kvs.any fun kv=>decide (kv.1=k))=true then kvs.map fun kv=>if kv.1=k then(kv.1,d)else kv else kvs++[(k,d)]
def PQ{K:W.Frag}{G:GH}{k:bH}{ps:List (bH×V)}{kvs:List (bH×D)}(h:gS K G ps kvs):(ps.any fun kv=>decide (kv.1=k))=kvs.any fun kv=>decide (kv.1=k):=by induction h with
|nil=>rfl
|cons r t ih=>rw[Qat,Qat,ih,r.1]
def KS{K:W.Frag}{G:GH}{ps:List (bH×V)}{kvs:List (bH×D)}{k:bH}{v:V}{d:D}(r:gS K G ps kvs)(h:RG K G v d):gS K G (eQ ps k v) (d4 kvs k d):=by
 unfold eQ d4;rw[PQ r];by_cases hc:(kvs.any fun kv=>decide (kv.1=k))=true
 .rw[if_pos hc,if_pos hc];clear hc
  induction r with
 |nil=>exact .nil
 |@cons p q ps kvs r t ih=>
   refine .cons ?_ ih;obtain⟨p1,p2⟩:=p;obtain⟨q1,q2⟩:=q;have e:p1=q1:=r.1;subst e;by_cases hk:p1=k
   .simp only[hk,if_true,true_and];exact h
   .simp only[hk,if_false,true_and];exact r.2
 .rw[if_neg hc,if_neg hc];exact Paired.snoc r ⟨rfl,h⟩
def dS:D->D->D->Option D
|.lst ds,.int k,v=>(gu ds.length k).map fun j=>.lst (ds.set j v)
|.dic kvs,k,v=>(gJ k).bind fun k=>if kvs.length<sizeLine then some (.dic (d4 kvs k v))else none
|_,_,_=>none
def FX:V->V->V->Hp->(Hp->Prop)->Prop:=fun o i v H Q=>∃p H',o=.ref p/\jW H p i v H'/\Q H'
def A9(hu:X.A.units+1<Qag):gj X FX:=by intro pz s σ H o i v ov iv u Q I ro ri rv h;obtain⟨p,H',rfl,hp,q⟩:=h;cases ro;exact Q7 hu I hp ri rv fun s' I'=>⟨H',I',q⟩
def gj.or{t t':lf}(h:gj X t)(h':gj X t'):gj X (fun o i v H Q=>t o i v H Q\/t' o i v H Q):=by
 intro pz s σ H o i v ov iv u Q I ro ri rv q;rcases q with q|q
 .exact h pz s σ H o i v ov iv u Q I ro ri rv q
 .exact h' pz s σ H o i v ov iv u Q I ro ri rv q
def AI{K:W.Frag}{G:GH}{H:Hp}{a:Addr}{d k v d':D}{kv vv:V}{Q:Hp->Prop}(gk:bW K G H)(ow:Own K G H a d)(rk:RB K G H kv k)(rv:RG K G vv v)(e:dS d k v=some d')(q:∀o',OwnO K G (upd H a o') a d'->Q (upd H a o')):FY (.ref a) kv vv H Q\/FX (.ref a) kv vv H Q:=by cases ow.ob with
|@lst xs ds r s=>cases k with
 |int k=>have e':(gu ds.length k).map (fun j=>D.lst (ds.set j v))=some d':=e;cases ej:gu ds.length k with
  |none=>rw[ej]at e';cases e'
  |some j=>rw[ej]at e';cases e';exact .inl ⟨a,xs,k,j,rfl,rk.int gk,r,by rw[Paired.length s];exact ej,q _ (.lst cQ (Paired.st rv j s))⟩
 |_=>cases e
|@dic ps kvs r s=>have e':(gJ k).bind (fun k=>if kvs.length<sizeLine then some (D.dic (d4 kvs k v))else none)=some d':=e;cases ek:gJ k with
 |none=>rw[ek]at e';cases e'
 |some k'=>
   rw[ek]at e';have e2:(if kvs.length<sizeLine then some (D.dic (d4 kvs k' v))else none)=some d':=e';by_cases hl:kvs.length<sizeLine
   .rw[if_pos hl]at e2;cases e2;have:=Paired.length s;refine .inr ⟨a,_,rfl,?_,q _ (.dic cQ (KS s rv))⟩;rw[Ar gk rk ek];exact jW.k r (by omega)
   .rw[if_neg hl]at e2;cases e2
def putF(m:List Md)(i:Nat)(fk fv:FE):FS:=fun r=>onE m r (fv r) fun v=>match r[i]? with
|some (some d)=>onE m r (fk r) fun k=>(match dS d k v with
 |some d'=>.nx (r.set i (some d'))
 |none=>.stuck)
|_=>.stuck
def n6(i:Nat)(hu:X.A.units+1<Qag)(hm:m[i]? = some .ow)(hN:X.N[i]? = some x)(hv:gA X.env.scope x)(hk:SB X g m b fb)(he:SE X g m e f)(hd:(x==("__debug__" : Str))=false:=by decide)(U:(x==("__classdict__" : Str))=false:=by decide)(ha:∀v,Qax (.Subscript (.Name x p1) b p2) X.env v=(do
   let ov <-Qam [v] (eval (.Name x p1) X.env);let iv <-Qam [v,ov] (eval b X.env)
   Qca p2
   Qam [v,ov,iv] (Qdq ov iv v)
   release [v,ov,iv] []):=by intro _;rfl)(hs:Qc5 [.Subscript (.Name x p1) b p2] e pos.line X.env=pure false:=by rfl)(hw:Qc6 [.Subscript (.Name x p1) b p2] e X.env=pure none:=by rfl)(h1:(Zi [.Subscript (.Name x p1) b p2] X.env).map (·.2)=[Qax (.Subscript (.Name x p1) b p2) X.env]:=by rfl):SS X g ro mb m (.Assign [.Subscript (.Name x p1) b p2] e pos) (putF m i fb f) m:=by refine⟨rfl,PS.imp (Gh he (Am (gP hN hv hd U) hk (gj.or Bg (A9 hu)) ha) hs hw h1) fun D0 σ H ⟨r,G,si,k⟩=>⟨r,G,si,?_⟩⟩;refine cn (gE si rfl k) fun v k1 vv G1 H1 w1 rv=>?_;cases er:r[i]? with
|none=>simp only[er]at k1;exact(show False from k1).elim
|some oo=>cases oo with
 |none=>simp only[er]at k1;exact(show False from k1).elim
 |some d=>simp only[er]at k1;obtain⟨a,h1,h2,h3⟩:=(si.grow w1).mut hm er;refine⟨_,h1,r,G1,si.grow w1,?_⟩;refine cn (gE (m:=m) (si.grow w1) rfl (cV.gle k1 w1.ge)) fun kk k2 kv G2 H2 w2 rk=>?_;cases es:dS d kk v with
  |none=>simp only[es]at k2;exact(show False from k2).elim
  |some d'=>simp only[es]at k2;obtain⟨a',z,Y,h3'⟩:=((si.grow w1).grow w2).mut hm er;rw[h1]at z;cases z;exact AI w2.ok Y rk (rv.mono w2.ge) es fun o' ob=>k2 σ G2 _ w2.ge (h3' o' d' ob)
end
mutual
def bI:D->PyData
|.non=>.none
|.bl b=>.bool b
|.int i=>.int i
|.str x=>.str x
|.tup ds=>.tuple (zbP ds)
|.lst ds=>.list (zbP ds)
|.dic _=>.none
|.obj _ _=>.none
def zbP:List D->List PyData
|[]=>[]
|d::ds=>bI d::zbP ds
end
def cP:Nat->D->Prop
|_,.non=>True
|_,.bl _=>True
|_,.int _=>True
|_,.str x=>QdA x=true
|0,.tup _=>False
|0,.lst _=>False
|k+1,.tup ds=>∀d∈ds,cP k d
|k+1,.lst ds=>∀d∈ds,cP k d
|_,.dic _=>False
|_,.obj _ _=>False
def Ba{k:Nat}{ds:List D}:cP (k+1) (.lst ds)↔∀d∈ds,cP k d:=by simp only[cP]
def iG{k:Nat}{ds:List D}:cP (k+1) (.tup ds)↔∀d∈ds,cP k d:=by simp only[cP]
def iL(a b:D):Bool:=ZF (bI a) (bI b)
section
variable{pz:List (Addr×Obj)}{σ:L2.St}{H:Hp}{s:h_}{G:GH}
def IR{k:Nat}(ih:∀(d:D)(v:V)(u:Value),cP k d->RG X.K G v d->L2.aS v u->∃as,Reads s.heap u (bI d) as)(ds:List D)(vs:List V)(us:List Value)(h:∀d∈ds,cP k d)(r:cR X.K G vs ds)(q:aN vs us):∃as,ReadsAll s.heap us (zbP ds) as:=by induction r generalizing us with
|nil=>cases q;exact⟨[],.nil⟩
|cons r t ih'=>cases q with
 |cons r' t'=>obtain⟨a1,h1⟩:=ih _ _ _ (h _ r_) r r';obtain⟨a2,h2⟩:=ih' _ (fun x hx=>h x (m_ _ hx)) t';exact⟨a1++a2,.cons h1 h2⟩
def pc(I:Inv X pz σ H s)(gk:bW X.K G H):∀(k:Nat)(d:D)(v:V)(u:Value),cP k d->RB X.K G H v d->L2.aS v u->∃as,Reads s.heap u (bI d) as:=by
 intro k
 induction k with
|zero=>intro d v u hs r ru;cases d with
 |non=>rw[r.non gk]at ru;cases ru;exact⟨_,.none⟩
 |bl b=>rw[r.bl gk]at ru;cases ru;exact⟨_,.bool b⟩
 |int i=>rw[r.int gk]at ru;obtain⟨t,rfl⟩:=ru;exact⟨_,.int i t⟩
 |str x=>rw[r.str gk]at ru;obtain⟨t,rfl⟩:=ru;exact⟨_,.str x t⟩
 |tup _=>unfold cP at hs;exact hs.elim
 |lst _=>unfold cP at hs;exact hs.elim
 |dic _=>unfold cP at hs;exact hs.elim
 |obj _ _=>unfold cP at hs;exact hs.elim
|succ k ih=>intro d v u hs r ru;cases d with
 |non=>rw[r.non gk]at ru;cases ru;exact⟨_,.none⟩
 |bl b=>rw[r.bl gk]at ru;cases ru;exact⟨_,.bool b⟩
 |int i=>rw[r.int gk]at ru;obtain⟨t,rfl⟩:=ru;exact⟨_,.int i t⟩
 |str x=>rw[r.str gk]at ru;obtain⟨t,rfl⟩:=ru;exact⟨_,.str x t⟩
 |tup ds=>obtain⟨a,xs,rfl,sq,rs⟩:=r.tup gk;cases ru;obtain⟨its,rv,pl,_⟩:=I.tuple sq;obtain⟨o,ho,hc,n,hd⟩:=pl;obtain⟨as,h⟩:=IR (k:=k) (fun d v u h1 h2 h3=>ih d v u h1 h2.rb h3) ds xs its (iG.mp hs) rs rv;refine⟨as,?_⟩;unfold bI;exact .tuple ho hc hd (by simpa using h)
 |lst ds=>obtain⟨a,xs,rfl,sq,rs⟩:=r.lst gk;cases ru;obtain⟨its,rv,pl,_⟩:=I.list sq;obtain⟨o,ho,hc,n,hd⟩:=pl.isList;obtain⟨as,h⟩:=IR (k:=k) (fun d v u h1 h2 h3=>ih d v u h1 h2.rb h3) ds xs its (Ba.mp hs) rs rv;refine⟨a::as,?_⟩;unfold bI;exact .list ho hc hd (by simpa using h)
 |dic _=>unfold cP at hs;exact hs.elim
 |obj _ _=>unfold cP at hs;exact hs.elim
def uS{k:Nat}(ih:∀d,cP k d->Zv (bI d)=true/\ZK (bI d)<=k):∀ds:List D,(∀d∈ds,cP k d)->Qcd (zbP ds)=true/\QbL (zbP ds)<=k
|[],_=>by unfold zbP Qcd QbL;exact⟨rfl,Zf _⟩
|d::ds,h=>by obtain⟨a1,a2⟩:=ih d (h d r_);obtain⟨b1,b2⟩:=uS ih ds fun x hx=>h x (m_ _ hx);unfold zbP Qcd QbL;rw[a1,b1];exact⟨rfl,Nat.max_le.mpr ⟨a2,b2⟩⟩
def AE:∀(k:Nat)(d:D),cP k d->Zv (bI d)=true/\ZK (bI d)<=k:=by
 intro k
 induction k with
|zero=>intro d hs;cases d with
 |non=>unfold bI Zv ZK;exact⟨rfl,Zf _⟩
 |bl b=>unfold bI Zv ZK;exact⟨rfl,Zf _⟩
 |int i=>unfold bI Zv ZK;exact⟨rfl,Zf _⟩
 |str x=>unfold cP at hs;unfold bI Zv ZK;exact⟨hs,Zf _⟩
 |tup _=>unfold cP at hs;exact hs.elim
 |lst _=>unfold cP at hs;exact hs.elim
 |dic _=>unfold cP at hs;exact hs.elim
 |obj _ _=>unfold cP at hs;exact hs.elim
|succ k ih=>intro d hs;cases d with
 |non=>unfold bI Zv ZK;exact⟨rfl,Zf _⟩
 |bl b=>unfold bI Zv ZK;exact⟨rfl,Zf _⟩
 |int i=>unfold bI Zv ZK;exact⟨rfl,Zf _⟩
 |str x=>unfold cP at hs;unfold bI Zv ZK;exact⟨hs,Zf _⟩
 |tup ds=>obtain⟨b1,b2⟩:=uS ih ds (iG.mp hs);unfold bI Zv ZK;exact⟨b1,QdO b2⟩
 |lst ds=>obtain⟨b1,b2⟩:=uS ih ds (Ba.mp hs);unfold bI Zv ZK;exact⟨b1,QdO b2⟩
 |dic _=>unfold cP at hs;exact hs.elim
 |obj _ _=>unfold cP at hs;exact hs.elim
def vV{d:D}(h:cP 60 d):QeM (bI d)=true:=by obtain⟨a,b⟩:=AE 60 d h;unfold QeM;rw[a,decide_eq_true (Y8 b (by decide))];rfl
end
section
variable{fb:FE}
def n9(a b:D):Bool:=dZ a&&dZ b&&kN (gQ a) (gQ b)
open Classical in
def g6(a b:D):Option Bool:=if n9 a b=true then some (gZ a b)else if cP 60 a/\cP 60 b then some (iL a b)else none
def eqD(a b:D):Option D:=(g6 a b).map .bl
def neD(a b:D):Option D:=(g6 a b).map fun c=>.bl (! c)
def oW{a b:D}(h:n9 a b=false)(h1:cP 60 a)(h2:cP 60 b):g6 a b=some (iL a b):=by unfold g6;rw[if_neg (by rw[h];exact k_),if_pos ⟨h1,h2⟩]
def Ik{a b:D}(h:n9 a b=true):g6 a b=some (gZ a b):=by unfold g6;rw[if_pos h]
@[simp] def eqB_int(a b:Int):g6 (.int a) (.int b)=some (a==b):=Ik rfl
@[simp] def eqB_str(a b:Str):g6 (.str a) (.str b)=some (a==b):=Ik rfl
def IH{a b:D}(h:kN (gQ a) (gQ b)=true)(fa:dZ a=true)(fb:dZ b=true):decide (gQ a=gQ b)=gZ a b:=by
 cases a <;> cases b <;> first
  |exact absurd (show false=true from fa) k_
  |exact absurd (show false=true from fb) k_
  |exact absurd (show false=true from h) k_
  |exact A0
  |exact zZ
  |exact A1
  |rfl
  |simp[gQ,gZ,i0]
def vA(K:W.Frag)(neg:Bool):R2:=fun x y H Q=>∃(G:GH)(d1 d2:D),bW K G H/\RB K G H x d1/\RB K G H y d2/\cP 60 d1/\cP 60 d2/\Q (.bl (if neg then ! iL d1 d2 else iL d1 d2)) H
def IP(hu:X.A.units+64<Qag):cu X (Y6 .Eq) (vA X.K false):=by intro pz s σ H x y v u Q I rx ry h;obtain⟨G,d1,d2,gk,r1,r2,s1,s2,q⟩:=h;obtain⟨as,h1⟩:=pc I gk 60 d1 x v s1 r1 rx;obtain⟨bs,h2⟩:=pc I gk 60 d2 y u s2 r2 ry;exact SeqAt.compareEq_shaped h1 h2 (vV s1) (vV s2) hu ⟨.bl _,H,I,rfl,q⟩
def Rx(hu:X.A.units+64<Qag):cu X (Y6 .NotEq) (vA X.K true):=by intro pz s σ H x y v u Q I rx ry h;obtain⟨G,d1,d2,gk,r1,r2,s1,s2,q⟩:=h;obtain⟨as,h1⟩:=pc I gk 60 d1 x v s1 r1 rx;obtain⟨bs,h2⟩:=pc I gk 60 d2 y u s2 r2 ry;exact SeqAt.compareNe_shaped h1 h2 (vV s1) (vV s2) hu ⟨.bl _,H,I,rfl,q⟩
def eq_cases{a b:D}{c:Bool}(h:g6 a b=some c):(n9 a b=true/\c=gZ a b)\/(cP 60 a/\cP 60 b/\c=iL a b):=by
 unfold g6 at h;split at h
 .rename_i hs;cases h;exact .inl ⟨hs,rfl⟩
 .split at h
  .rename_i hs;cases h;exact .inr ⟨hs.1,hs.2,rfl⟩
  .cases h
def E4{K:W.Frag}:fH K (fun x y H Q=>Ks x y H Q\/vA K false x y H Q) eqD:=by intro G H v1 v2 d1 d2 d Q gk r1 r2 e q;unfold eqD at e;cases ec:g6 d1 d2 with
|none=>rw[ec]at e;cases e
|some c=>
  rw[ec]at e;cases e;rcases eq_cases ec with⟨hs,rfl⟩|⟨s1,s2,rfl⟩
  .unfold n9 at hs;rw[P_,P_]at hs;obtain⟨e1,_⟩:=RB.flat r1 gk hs.1.1;obtain⟨e2,_⟩:=RB.flat r2 gk hs.1.2;refine .inl ⟨by rw[e1,e2];exact hs.2,?_⟩;rw[e1,e2,IH hs.2 hs.1.1 hs.1.2];exact q _ G H (Grow.refl gk) (.scl (.bl _))
  .exact .inr ⟨G,d1,d2,gk,r1,r2,s1,s2,q _ G H (Grow.refl gk) (.scl (.bl _))⟩
def Lw{K:W.Frag}:fH K (fun x y H Q=>Kr x y H Q\/vA K true x y H Q) neD:=by intro G H v1 v2 d1 d2 d Q gk r1 r2 e q;unfold neD at e;cases ec:g6 d1 d2 with
|none=>rw[ec]at e;cases e
|some c=>
  rw[ec]at e;cases e;rcases eq_cases ec with⟨hs,rfl⟩|⟨s1,s2,rfl⟩
  .unfold n9 at hs;rw[P_,P_]at hs;obtain⟨e1,_⟩:=RB.flat r1 gk hs.1.1;obtain⟨e2,_⟩:=RB.flat r2 gk hs.1.2;refine .inl ⟨by rw[e1,e2];exact hs.2,?_⟩;rw[e1,e2,IH hs.2 hs.1.1 hs.1.2];exact q _ G H (Grow.refl gk) (.scl (.bl _))
  .exact .inr ⟨G,d1,d2,gk,r1,r2,s1,s2,q _ G H (Grow.refl gk) (.scl (.bl _))⟩
def fu(hu:X.A.units+64<Qag)(ha:SB X g m a fa)(hb:SB X g m b fb):SE X g m (.Compare a [.Eq] [b] pos) (f2 fa fb eqD):=lh (cu.or Fv (IP hu)) E4 ha hb (jA _)
def jH(hu:X.A.units+64<Qag)(ha:SB X g m a fa)(hb:SB X g m b fb):SQ X g m (.Compare a [.Eq] [b] pos) (dY (f2 fa fb eqD)):=nZ (cu.or Fv (IP hu)) E4 ha hb (jA _)
def gW(hu:X.A.units+64<Qag)(ha:SB X g m a fa)(hb:SB X g m b fb):SQ X g m (.Compare a [.NotEq] [b] pos) (dY (f2 fa fb neD)):=nZ (cu.or LD (Rx hu)) Lw ha hb (jA _)
def F4(fa fb fc:FE)(k k':D->D->Option D):FE:=fun r=>(fa r).bind fun x=>(fb r).bind fun y=>(dw (k x y)).bind fun z=>(dw (sX z)).bind fun c=>if c=true then(fc r).bind fun w=>dw (k' y w)else .ok (.bl false)
def zR(K:W.Frag):R2:=fun x y H Q=>∃l b xs zs,x=.ref l/\y=.ref b/\cy K H l xs/\cy K H b zs/\xs.length+zs.length<=sizeLine/\∀p,H p=none->Q (.ref p) (upd H p (.lst (xs++zs)))
def Hh:cu X (Z_ .Add) (zR X.K):=by
 intro pz s σ H x y v u Q I rx ry h;obtain⟨l,b,xs,zs,rfl,rfl,hH,hB,hz,q⟩:=h;cases rx;cases ry;obtain⟨its,r,pl,_⟩:=I.list hH;obtain⟨z,r2,ld,_⟩:=I.list hB;have l1:=r.length;have l2:=r2.length;obtain⟨⟨cls,dd,data,sl⟩,ho,hc,n,hd⟩:=pl.isList;obtain⟨⟨Cl,Y,BT,Z⟩,ho2,U,n2,hd2⟩:=ld.isList;simp only at hc hd U hd2;subst hc hd U hd2;have e:its.toArray++z.toArray=(its++z).toArray:=by simp
 refine Qcr ⟨_,ho,rfl⟩ ⟨_,ho2,rfl⟩ noFill_list_add seq_list_add PySem.F.slot_list_add PySem.F.entry_list_add (PySem.F.args_list_add_2 _ _) (list_addW _ _ its.toArray z.toArray n n2 dd Y sl Z (by simp;omega)) ⟨ho,ho2,?_⟩;rw[e];exact⟨.ref _,_,I.lnew (t':=s.toks) (r.append r2) (by rw[Y3];omega),rfl,q _ I.fresh⟩
def addA:D->D->Option D
|.int a,.int b=>some (.int (a+b))
|.str a,.str b=>if a.length+b.length<=sizeLine then some (.str (a++b))else none
|.lst a,.lst b=>if a.length+b.length<=sizeLine then some (.lst (a++b))else none
|.tup (x::a),.tup b=>if (x::a).length+b.length<=sizeLine then some (.tup (x::a++b))else none
|_,_=>none
def GX{K:W.Frag}:fH K (fun x y H Q=>(∃i j,x=.int i/\y=.int j/\Q (.int (i+j)) H)\/(∃i j,x=.str i/\y=.str j/\i.length+j.length<=sizeLine/\Q (.str (i++j)) H)\/zR K x y H Q\/zS K x y H Q) addA:=by
 intro G H v1 v2 d1 d2 d Q gk r1 r2 e q;unfold addA at e;split at e
 .cases e;exact .inl ⟨_,_,r1.int gk,r2.int gk,q _ G H (Grow.refl gk) (.scl (.int _))⟩
 .split at e
  .rename_i hl;cases e;exact .inr (.inl ⟨_,_,r1.str gk,r2.str gk,hl,q _ G H (Grow.refl gk) (.scl (.str _))⟩)
  .cases e
 .split at e
  .rename_i hl;cases e;obtain⟨a,xs,rfl,s1,t1⟩:=r1.lst gk;obtain⟨b,ys,rfl,s2,t2⟩:=r2.lst gk;have l1:=Paired.length t1;have l2:=Paired.length t2;exact .inr (.inr (.inl ⟨a,b,xs,ys,rfl,rfl,s1,s2,by omega,fun p hp=>q _ _ _ (Grow.newF gk hp (.lst (.inl cQ) (Paired.app t1 t2))) (.ref fW)⟩))
  .cases e
 .split at e
  .rename_i x0 a0 b0 hl;cases e;rcases r1 with r1|⟨a',_,oo⟩
   .obtain⟨a,xs,rfl,s1,t1⟩:=r1.tup gk;obtain⟨b,ys,rfl,s2,t2⟩:=r2.tup gk;have l1:=Paired.length t1;have l2:=Paired.length t2;refine .inr (.inr (.inr ⟨a,b,xs,ys,rfl,rfl,s1,s2,?_,by omega,fun hy=>?_,fun _ p hp=>q _ _ _ (Grow.newF gk hp (.tup (.inl cQ) (Paired.app t1 t2))) (.ref fW)⟩))
    .rintro rfl
     cases t1
    .subst hy;cases t2;refine q _ G H (Grow.refl gk) ?_;rw[Zl];exact r1
   .cases oo.ob
  .cases e
 .cases e
def gU(ha:SB X g m a fa)(hb:SB X g m b fb):SE X g m (.BinOp a .Add b pos) (f2 fa fb addA):=jX (cu.or GL (cu.or Ju (cu.or Hh Hi))) GX ha hb
end
end DL
end
namespace DL
open PySem PySem.Spec PyProof.Rows L2
structure DefAt(K:W.Frag)(mg:Str->Option Value)(x:Str)(st:Stmt):Prop where
 ex:∃f fd,mg x=some (.ref f)/\Fun K x x st f fd
structure Callee(P:C_)(w:N_)(K:W.Frag)(mg:Str->Option Value)(base:Heap)(x:Str)(ps:List Str)(ds:List Value)(k:Nat)(ro:Bool)(ms:List Md)(F:List D->Res D):Prop where
 ex:∃f fd,mg x=some (.ref f)/\W.keepIn K (.ref f)=true/\hU K fd ps ds/\FnOk P w K mg base cH k f fd ps (jE K ro ms F)
section
variable{P:C_}{w:N_}{K:W.Frag}{mg:Str->Option Value}{base:Heap}
def Av{x:Str}{st:Stmt}{N ps:List Str}{k:Nat}{ro:Bool}{ms:List Md}{fs:FS}{m':List Md}(A:DefAt K mg x st)(S:FnScope N ps (aE st))(U:ms.length=ps.length)(hb:∀(kV doc pm:Value)(an:Option Addr)(cdv ct:Value)(us:List Value),us.length=ps.length->Qbk (W.fnOf x x (aP st) (aO st) (aE st) .none kV doc pm an cdv ct) ⟨us,[]⟩=pure (ps.zip us))(z:∀(f:Addr)(cdv:Value)(A:W_)(outer:List Env)(s:h_)(H:Hp)(g:GE)(E:XK),Room k (A.deeper (QaX x (aE st) s.heap.objs.size f cdv)) ->fU (bM cH P w K mg base N x (aE st) f cdv A outer s H E).nox g ro [] (iC N.length ms) (aO st) fs m'):Callee P w K mg base x ps [] (k+1) ro ms fun ds=>dU ro (fs (c7 N.length ds)):=by obtain⟨f,fd,h1,F⟩:=A.ex;exact⟨f,fd,h1,F.kp,F.binds hb,Ab F S U (z f)⟩
structure DefAtD(K:W.Frag)(mg:Str->Option Value)(x:Str)(st:Stmt)(dds:List Value):Prop where
 ex:∃(f T:Addr)(o:Obj)(n:Nat)(oc:Value)(od:Option Addr)(kV doc pm:Value)(an:Option Addr)(cdv ct:Value)(osl:Array (Option Value)),mg x=some (.ref f)/\K.lookup T=some o/\o.data=.seq dds.toArray n/\K.lookup f=some ⟨oc,od,.func (W.fnOf x x (aP st) (aO st) (aE st) (.ref T) kV doc pm an cdv ct),osl⟩/\W.codeIn K cdv x=true/\W.keepIn K (.ref f)=true
end
variable{X:Cx}{g:GE}{m:List Md}{e:Expr}{es:List Expr}{fl:aL->Res (List D)}{p pos:Pos}
section
variable{k:Nat}{ps:List Str}{F:List D->Res D}{dvs:List V}{ds:List Value}{dds:List D}{x:Str}{i:Nat}{ms ms':List Md}
def Aj(c:Callee X.prog X.w X.K X.mg X.base x ps ds k false ms' F)(hr:Room k X.A)(ha:iM X g m (e::es) ms fl)(Y:ms'=ms++d_ dds.length .sh:=by rfl)(hg:Gl X x:=by rfl)(hd:aN dvs ds:=by exact .nil)(Z:Paired Scl dvs dds:=by exact .nil)(U:(x==("__debug__" : Str))=false:=by decide)(he:f_ (e::es) X.env=(false,eval e X.env)::f_ es X.env:=by rfl)(z:(backTo pos (f_ es X.env)).any (·.1)=false:=by rfl):SE X g m (.Call (.Name x p) (e::es) [] pos) (cg fl dds F):=by subst Y;obtain⟨f,fd,h1,h2,h3,h4⟩:=c.ex;exact NU h4 hr hg h1 h2 h3 hd Z ha U he z
def OG(c:Callee X.prog X.w X.K X.mg X.base x ps ds k true ms' F)(hr:Room k X.A)(ha:iM X g m (e::es) ms fl)(Y:ms'=ms++d_ dds.length .sh:=by rfl)(hg:Gl X x:=by rfl)(hd:aN dvs ds:=by exact .nil)(Z:Paired Scl dvs dds:=by exact .nil)(U:(x==("__debug__" : Str))=false:=by decide)(he:f_ (e::es) X.env=(false,eval e X.env)::f_ es X.env:=by rfl)(z:(backTo pos (f_ es X.env)).any (·.1)=false:=by rfl):SO X g m (.Call (.Name x p) (e::es) [] pos) (kW (cg fl dds F)):=by subst Y;obtain⟨f,fd,h1,h2,h3,h4⟩:=c.ex;exact Na h4 hr hg h1 h2 h3 hd Z ha U he z
def v_(i:Nat)(hm:m[i]? = some .sh:=by rfl)(hN:X.N[i]? = some x:=by rfl)(hv:gA X.env.scope x:=by first|exact Or.inl rfl|exact Or.inr (Or.inl rfl)|exact Or.inr (Or.inr rfl))(hd:(x==("__debug__" : Str))=false:=by decide)(z:(x==("__classdict__" : Str))=false:=by decide):SE X g m (.Name x p) fun r=>c8 r i:=K6 i hm hN hv hd z
def aI(i:Nat)(hm:i<m.length:=by decide)(hN:X.N[i]? = some x:=by rfl)(hv:gA X.env.scope x:=by first|exact Or.inl rfl|exact Or.inr (Or.inl rfl)|exact Or.inr (Or.inr rfl))(hd:(x==("__debug__" : Str))=false:=by decide)(z:(x==("__classdict__" : Str))=false:=by decide):SB X g m (.Name x p) fun r=>c8 r i:=N4 i hm hN hv hd z
end
def GN(osc:Qa1)(ON:List Str)(sc:Qa1)(N':List Str)(nl:Nat)(cap:List Nat):Bool:=decide (sc.kind=.function)&&sc.names.all (fun y=>decide (y.2≠.cell))&&sc.names.all (fun y=>decide (y.2≠.local) || decide (sc.names.lookup y.1=some .local)) &&
 sc.names.all (fun y=>decide (y.2≠.free) || (decide (osc.names.lookup y.1=some .cell) || decide (osc.names.lookup y.1=some .free)))&&decide (N'.length=nl+cap.length) &&
 (g_ cap.length).all fun j=>match N'[nl+j]?,ON[cap.getD j 0]? with
 |some x,some y=>decide (x=y)&&decide (sc.names.lookup x=some .free)
 |_,_=>false
def d9{X:Cx}{osc:Qa1}{ON:List Str}{sc:Qa1}{N':List Str}{nl:Nat}{cap:List Nat}(h1:X.env.scope=osc)(h2:X.N=ON)(h:GN osc ON sc N' nl cap=true):CompSc X sc N' nl cap:=by subst h1 h2;unfold GN at h;simp only[P_,Ze,decide_eq_true_eq,Qd5]at h;obtain⟨⟨⟨⟨⟨a1,a2⟩,a3⟩,a4⟩,a5⟩,a6⟩:=h;refine⟨a1,a2,fun y hy hl=>(a3 y hy).resolve_left fun z=>z hl,fun y hy hf=>(a4 y hy).resolve_left fun z=>z hf,a5,fun j hj=>?_⟩;have h6:=a6 j (s_.mpr hj);cases e1:N'[nl+j]? with
|none=>rw[e1]at h6;cases h6
|some x=>cases e2:X.N[cap.getD j 0]? with
 |none=>rw[e1,e2]at h6;cases h6
 |some y=>rw[e1,e2]at h6;simp only[P_,decide_eq_true_eq]at h6;exact⟨x,rfl,by rw[h6.1],h6.2⟩
variable{mb:List Md}{a b:Expr}{f fa:FE}{pos':Pos}
section
variable{c:Expr}{fb fc:FE}
def Sb{R R':R2}{k k':D->D->Option D}(ho:fH X.K R k)(ho':fH X.K R' k'){σ:L2.St}{H:Hp}{Q:VK}(h:tE X g m (F4 fa fb fc k k') σ H Q):Gx R R' (tB X g m fa) (tB X g m fb) (tB X g m fc) σ H Q:=by obtain⟨r,G,si,q⟩:=h;refine nh si q fun d1 d2 v1 v2 G2 H2 w r1 r2 q2=>?_;obtain⟨z,ez,q3⟩:=dQ (cw q2);obtain⟨cc,ec,q4⟩:=dQ (cw q3);refine ho G2 H2 v1 v2 d1 d2 z _ w.ok r1 r2 ez fun v G3 H3 w3 rv=>?_;cases z with
|bl b'=>cases ec;refine⟨_,rv.bl w3.ok,?_⟩;cases cc with
 |false=>rw[if_neg k_]at q4 ⊢;exact q4 _ G3 H3 (w.trans w3) (.scl (.bl _))
 |true=>rw[if_pos rfl]at q4 ⊢;refine⟨r,G3,(si.grow w).grow w3,iR (cw q4) (w.trans w3) fun d3 q5 v3 G4 H4 w4 r3=>?_⟩;obtain⟨d,e,q6⟩:=dQ q5;exact ho' G4 H4 v2 v3 d2 d3 d Q w4.ok ((r2.mono w3).mono w4) r3 e fun v G' H' w' z=>q6 v G' H' (((w.trans w3).trans w4).trans w') z
|_=>cases ec
def Qq{op z:CmpOp}{R R':R2}{k k':D->D->Option D}(hr:cu X (Y6 op) R)(U:cu X (Y6 z) R')(ho:fH X.K R k)(ho':fH X.K R' k')(ha:SB X g m a fa)(hb:SB X g m b fb)(hc:SB X g m c fc)(hm:lastMarks [op,z] [b,c]=false:=by with_unfolding_all rfl):SE X g m (.Compare a [op,z] [b,c] pos) (F4 fa fb fc k k'):=PE.imp (QQ hr U ha hb hc hm) fun σ H Q h=>Sb ho ho' h
def LA{K:W.Frag}:fH K (jG fun i j=>V.bl (decide (i<j))) lO:=lA fun _ _=>.bl _
def Lz{K:W.Frag}:fH K (jG fun i j=>V.bl (decide (i<=j))) UQ:=lA fun _ _=>.bl _
end
def KF{K:W.Frag}{h:Heap}{mg:Str->Option Value}{x:Str}{st:Stmt}(KX:K.In h)(G:h.Ns K_ mg){f:Addr}{oc:Value}{od an:Option Addr}{osl:Array (Option Value)}{kV doc pm cdv ct:Value}(a:W.nsIn K K_ x=some (some (.ref f)))(l:K.lookup f=some ⟨oc,od,.func (W.fnOf x x (aP st) (aO st) (aE st) .none kV doc pm an cdv ct),osl⟩)(c:W.codeIn K cdv x=true)(k:W.keepIn K (.ref f)=true):DefAt K mg x st:=⟨f,_,W.mg_of KX G a,cv l c k⟩
def E1{K:W.Frag}{h:Heap}{mg:Str->Option Value}{x:Str}{st:Stmt}{dds:List Value}(KX:K.In h)(G:h.Ns K_ mg){f T:Addr}{oc tc:Value}{od an td:Option Addr}{osl z:Array (Option Value)}{n:Nat}{kV doc pm cdv ct:Value}(a:W.nsIn K K_ x=some (some (.ref f)))(l:K.lookup f=some ⟨oc,od,.func (W.fnOf x x (aP st) (aO st) (aE st) (.ref T) kV doc pm an cdv ct),osl⟩)(t:K.lookup T=some ⟨tc,td,.seq dds.toArray n,z⟩)(c:W.codeIn K cdv x=true)(k:W.keepIn K (.ref f)=true):DefAtD K mg x st dds:=⟨f,T,_,n,oc,od,kV,doc,pm,an,cdv,ct,osl,W.mg_of KX G a,t,rfl,l,c,k⟩
def KH{P:C_}{w:N_}{K:W.Frag}{mg:Str->Option Value}{x p:Str}{st:Stmt}{k:Nat}{F:List D->Res D}{fa:Addr}(z:mg x=some (.ref fa))(A:DefAt K mg x st)(hb:∀(kV doc pm:Value)(an:Option Addr)(cdv ct:Value)(us:List Value),us.length=[p].length->Qbk (W.fnOf x x (aP st) (aO st) (aE st) .none kV doc pm an cdv ct) ⟨us,[]⟩=pure ([p].zip us))(C:∀(f:Addr)(fd:Zt),Fun K x x st f fd->∀base:Heap,FnOk P w K mg base cH k f fd [p] (jE K false [.sh] F)):∃fd:Zt,(∀(s:h_)(u:Value),Qdu s fd ⟨[u],[]⟩ [(p,u)])/\∀base:Heap,K.In base->base.Ns K_ mg->FnOk P w K mg base cH k fa fd [p] (jE K false [.sh] F):=by obtain⟨f,fd,h1,Fn⟩:=A.ex;rw[z]at h1;cases h1;refine⟨fd,fun s u=>?_,fun base _ _=>C fa fd Fn base⟩;obtain⟨oc,od,kV,doc,pm,an,cdv,ct,osl,rfl,lk,U⟩:=Fn.ex;exact .of_eq (hb kV doc pm an cdv ct [u] rfl)
def KB{l:W.OpenLaw}{k:Nat}{q:C_}{Z:List Str}{XP:(Str->Option Value)->Heap->Prop}{YP:N_->Heap->Prop}{d:DefRec}{K:Params->W.Frag}{x:Str}{F:List D->Res D}(hn:l.most=some 63)(ld:d.params.defaults=[])(hr:Room k QcA)(hY:∀(w:N_)(h:Heap),YP w h->(K w.params).In h)(hF:∀ns:List Int,ns.length<=63->F [.lst (ns.map .int)]=.ok (.bl true))(C:∀(w:N_)(mg:Str->Option Value)(fa:Addr)(h:Heap),(K w.params).In h->h.Ns K_ mg->mg d.name=some (.ref fa) ->∃fd:Zt,(∀(s:h_)(u:Value),Qdu s fd ⟨[u],[]⟩ [(x,u)])/\∀base:Heap,(K w.params).In base->base.Ns K_ mg->FnOk l.prog w (K w.params) mg base cH k fa fd [x] (jE (K w.params) false [.sh] F)):W.WalkO q Z XP YP l.row.toRowW d [] (fun f vs=>Qen f vs):=by
 refine L2.kH (n:=63) (k:=k) (x:=x) (CX:=fun _=>cH) (sp:=fun w=>jE (K w.params) false [.sh] F) hn (by decide) ld hr hY C (fun w H a ns hl hO hS=>?_) fun _ _ _ _ _ z=>z;have U:∀(l:List Int),Paired Scl (l.map V.int) (l.map D.int):=fun l=>by induction l with
 |nil=>exact .nil
 |cons i l ih=>exact .cons (.int i) ih
 rcases hS with hS|hS
 .refine⟨fun b=>if b=a then some (.lst (ns.map D.int))else none,[.lst (ns.map .int)],fun b d' hb=>?_,.sh (.ref (if_pos rfl)) .nil,?_⟩
  .by_cases e:b=a
   .subst e;have Y:some (D.lst (ns.map D.int))=some d':=(if_pos rfl).symm.trans hb;cases Y;exact .lst hS (Paired.mono (fun _ _ z=>.scl z) (U ns))
   .have Y:(none:Option D)=some d':=(if_neg e).symm.trans hb;cases Y
  .rw[hF ns hl];intro v G' H' w' rv;exact rv.bl w'.ok
 .refine⟨fun _=>none,[.lst (ns.map .int)],fun b d' hb=>(by cases hb),.sh (.kc (.lst (.inr hS) (U ns))) .nil,?_⟩;rw[hF ns hl];intro v G' H' w' rv;exact rv.bl w'.ok
section
open AutoSeq1 (wpAny_loadPart')
section
variable{prog:C_}{w:N_}{A:W_}{E:Value->h_->Prop}{s:h_}
def Ux{it t:Addr}{i:Nat}{items}{x:Value}{Q:Value->h_->Prop}(hit:s.heap.IsTupleIter it t i)(ht:s.heap.IsTuple t items)(hx:items[i]? = some x)(hQ:∀h',h'.IsTupleIter it t (i+1)->Qbg it s.heap h'->Q x { s with heap:=h' }):w_ (B_ prog w) A (Zb (.ref it)) Q E s:=by
 obtain⟨o,ho,hc,hd⟩:=id hit;obtain⟨ol,hol,_,nl,hdl⟩:=ht;unfold Zb;refine a_ (ZH (name:=D_ "__next__") hit.typeIs F.slot_tuple_iterator_next
  (Qay F.slot_tuple_iterator_next hit.typeIs F.entry_tuple_iterator_next ?_ (F.args_tuple_iterator_next_1 _)))
 show w_ _ _ (Qep (.ref it) 0 >>= _) _ _ s;refine a_ (Y5 ho hd (x:=.ref t) rfl ?_);show w_ _ _ (if (Value.ref t==Value.none)=true then _ else _) _ _ s;rw[if_neg (show ¬ ((Value.ref t==Value.none)=true)from k_)];show w_ _ _ (Qep (.ref it) 1 >>= _) _ _ s;refine a_ (Y5 ho hd (x:=.int i 0) rfl ?_);show w_ _ _ (seqItems? (.ref t) >>= _) _ _ s;refine a_ (Z1 hol hdl ?_);simp only[Zy,hx];refine a_ (Qaz ho hd (by simp) (n_ ⟨x,rfl,n_ (hQ _ ?_ (QbQ ..))⟩));exact⟨_,Y_ _ ho (Obj.isFreed_of_fields (Qdk hd _)),(Obj.cls_mapFields ..).trans hc,by rw[Qdk hd];simp[Qbh]⟩
def Ug{it t:Addr}{i:Nat}{items}{Q:Value->h_->Prop}(hh:A.handled=none)(hit:s.heap.IsTupleIter it t i)(ht:s.heap.IsTuple t items)(hx:items[i]? = none)(hE:∀h' e,Heap.ExtBut it s.heap h'->(∃o,h'.get? e=some o/\o.cls=.type "StopIteration")->E (.ref e) { s with heap:=h' }):w_ (B_ prog w) A (Zb (.ref it)) Q E s:=by
 obtain⟨o,ho,hc,hd⟩:=id hit;obtain⟨ol,hol,_,nl,hdl⟩:=ht;unfold Zb;refine a_ (ZH (name:=D_ "__next__") hit.typeIs F.slot_tuple_iterator_next
  (Qay F.slot_tuple_iterator_next hit.typeIs F.entry_tuple_iterator_next ?_ (F.args_tuple_iterator_next_1 _)))
 show w_ _ _ (Qep (.ref it) 0 >>= _) _ _ s;refine a_ (Y5 ho hd (x:=.ref t) rfl ?_);show w_ _ _ (if (Value.ref t==Value.none)=true then _ else _) _ _ s;rw[if_neg (show ¬ ((Value.ref t==Value.none)=true)from k_)];show w_ _ _ (Qep (.ref it) 1 >>= _) _ _ s;refine a_ (Y5 ho hd (x:=.int i 0) rfl ?_);show w_ _ _ (seqItems? (.ref t) >>= _) _ _ s;refine a_ (Z1 hol hdl ?_);simp only[Zy,hx];refine a_ (Qdl (a_ (Qaz ho hd (by simp) ?_)));show w_ _ _ (newExc (.type "StopIteration") [] >>= _) _ _ _;refine a_ ?_;simp only[newExc,newTuple];refine a_ (Zk ?_ (by size_fits));refine a_ (m:=firstArgMember _ _) (wpAny_of_eq (a:=Value.none) (by first|rfl|(simp only[firstArgMember];rfl)) ?_);refine Zk ?_ (by size_fits);simp only[raiseNew];refine a_ (wpAny_handled ?_)
 first|rw[show A.in1.handled=none from hh]|rw[hh]
 refine a_ (n_ (wpAny_throw ?_));exact hE _ _ (((QbQ ..).extBut.push _).push _) ⟨_,t_ _ rfl,rfl⟩
end
def LR{prog:C_}{w:N_}{A:W_}(hh:A.handled=none)(it l:Addr)(hne:l≠it)(items:Array Value):Qda prog w A it [it,l] items.size (fun i v=>items[i]? = some v) (fun i h=>h.IsTupleIter it l i/\h.IsTuple l items) where
 live:=fun _ _ st=>let⟨o,ho,_⟩:=st.1;⟨o,ho⟩
 frame:=fun _ _ _ st hk=>⟨let⟨o,ho,r⟩:=st.1;⟨o,hk it (by simp) o ho,r⟩,let⟨o,ho,r⟩:=st.2;⟨o,hk l (by simp) o ho,r⟩⟩
 item:=fun i s Q E hi st hQ=>by refine Ux st.1 st.2 (x:=items[i]) (by simp[hi]) fun h' hit' z=>?_;exact hQ _ h' s.toks (by simp[hi]) ⟨hit',st.2.extBut z.extBut hne⟩ z
 done:=fun s Q E st hE=>Ug hh st.1 st.2 (by simp) hE
def Ut(l:Addr)(items:Array Value)(n:Nat)(z:Option Addr)(sl:Array (Option Value)) :
  Meets (QaT.«enumerate.__new__» ⟨[.type "enumerate",.ref l],[]⟩) (fun _ R s=>s.heap.get? l=some { cls:=.type "tuple",dict:=z,data:=.seq items n,slots:=sl } /\
   R (.ok (.ret (.ref (s.heap.push { cls:=.type "tuple_iterator",data:=.fields #[.ref l,.int 0 0] }).objs.size)))
    { s with heap:=(s.heap.push { cls:=.type "tuple_iterator",data:=.fields #[.ref l,.int 0 0] }).push { cls:=.type "enumerate",data:=.fields #[.none,.bool false,.ref s.heap.objs.size,Qbh 0,.none,.none] } }):=
 .of_wp fun prog w A R s h=>by
  obtain⟨hp,g,d,tk,os⟩:=s;obtain⟨hl,h⟩:=h;have U:=sub_enumerate;have hL:Heap.IsTuple (Qd0 ⟨hp,g,d,tk,os⟩) l items:=⟨_,hl,rfl,n,rfl⟩
  wp_walk using ZD hl
  refine wpAny_stack_any fun st=>n_ ?_;split
  .rename_i c _ _ _ _ _;cases(c==Value.type "enumerate")
   .wp_walk using ZD hl,QaC hL
    exact⟨_,rfl,h⟩
   .wp_walk using ZD hl,QaC hL
    exact⟨_,rfl,h⟩
  .wp_walk using ZD hl,QaC hL
   exact⟨_,rfl,h⟩
section
variable{prog:C_}{w:N_}{A:W_}{E:Value->h_->Prop}{s:h_}
def T4{l:Addr}{items:Array Value}{Q:Value->h_->Prop}(hL:s.heap.IsTuple l items)(h:∀h',IsEnum h' (s.heap.objs.size+1) s.heap.objs.size 0 .none->h'.IsTupleIter s.heap.objs.size l 0->h'.objs.size=s.heap.objs.size+2 ->(∀b o,s.heap.get? b=some o->h'.get? b=some o)->Q (.ref (s.heap.objs.size+1)) { s with heap:=h' }):w_ (B_ prog w) A (call (.type "enumerate") [.ref l]) Q E s:=by
 obtain⟨⟨c,z,dt,sl⟩,hl,hc,n,hd⟩:=hL;replace hc:c=.type "tuple" := hc;replace hd:dt=.seq items n:=hd;subst hc hd;refine QdB F.called_enumerate (by decide) (F.typeCall_enumerate_1 _) (F.newCall_enumerate_1 _) (fun obj=>F.args_object_init_2 obj _) F.entry_enumerate_new
  (Ut l items n z sl) ⟨hl,?_⟩
 have hz:(s.heap.push { cls:=.type "tuple_iterator",data:=.fields #[.ref l,.int 0 0] }).objs.size=s.heap.objs.size+1:=Zj ..;show _/\_;rw[hz];have he:IsEnum ((s.heap.push { cls:=.type "tuple_iterator",data:=.fields #[.ref l,.int 0 0] }).push
   { cls:=.type "enumerate",data:=.fields #[.none,.bool false,.ref s.heap.objs.size,Qbh 0,.none,.none] }) (s.heap.objs.size+1) s.heap.objs.size 0 .none:=by
  have:=t_ (s.heap.push { cls:=.type "tuple_iterator",data:=.fields #[.ref l,.int 0 0] })
   (o:={ cls:=.type "enumerate",data:=.fields #[.none,.bool false,.ref s.heap.objs.size,Qbh 0,.none,.none] }) rfl
  rw[hz]at this;exact this
 refine⟨⟨_,he,rfl⟩,h _ he ⟨_,c_ _ (t_ _ rfl),rfl,rfl⟩ (by rw[Zj,hz]) fun b o x=>c_ _ (c_ _ x)⟩
end
def Io{X:Cx}{pz:List (Addr×Obj)}{σ:L2.St}{H:Hp}{s:h_}{h':Heap}{ch:List Addr}{T:Addr}{o:HO}{t':Nat}(I:Inv X pz σ H s)(Y:∀b∈ch,eL X pz H b)(k:∀b ob,b∉ch->s.heap.get? b=some ob->h'.get? b=some ob)(hT:s.heap.objs.size<=T)(new:du X.prog X.w (upd H T o) h' T o):Inv X pz σ (upd H T o) { s with heap:=h',toks:=t' }:=by
 have Z:H T=none:=I.hok.fresh hT;have trk:∀b u,H b=some u->b∉ch:=fun b u e hb=>by rw[(Y b hb).1]at e;cases e
 have ld:∀b ob,s.heap.get? b=some ob->b≠T:=fun b ob e=>G_ (F_ (z_ e) hT);have U:∀b u,H b=some u->upd H T o b=some u:=fun b u e=>by rw[bX (mO e Z)];exact e
 refine I.step (g':=s.gens) (d':=s.drawn) (ch:=ch) (fun b hb=>?_) (fun b ob _ _ hc e _=>k b ob hc e) (fun b ob _ _ hc e _=>⟨ob.slots,k b ob hc e⟩) (fun b ob hc e n=>by rw[bX (ld b ob e)];exact n)
  (fun b ob hc e=>⟨ob,k b ob hc e⟩) (fun b xs e=>U b _ e) (fun b ob u e=>U b _ e) (fun b ps e=>⟨#[],by rw[U b _ e];simp⟩) (fun m hm=>?_) (fun b u e=>?_) I.bare
 .obtain⟨z0,z1,z2,z3,z4,z5⟩:=Y b hb;exact⟨z3,z1,z4,z5⟩
 .obtain⟨ob,es,ep,ho,r⟩:=hm;exact⟨ob,es,ep,k _ ob (fun hb=>(Y _ hb).2.1 rfl) ho,r⟩
 .by_cases hb:b=T
  .subst hb;rw[cQ]at e;cases e;exact new
  .rw[bX hb]at e;refine(I.hok b u e).stay (fun c v hc q=>k c v ?_ q) (fun c q=>U c _ q) fun c xs q=>U c _ q;rcases hc with z|z
   .rw[z];exact trk b u e
   .exact trk c _ z
def nO(sq:Hp->List V->Prop):It:=⟨fun i H=>∃xs x,sq H xs/\xs[i]? = some x,fun i H x H'=>∃p v,H p=none/\x=.ref p/\H'=upd H p (.tup [.int i,v])/\∀xs,sq H xs->xs[i]? = some v,fun i H=>∃xs,sq H xs/\xs.length=i⟩
def PF{P:C_}{w:N_}{H:Hp}{h:Heap}{T:Addr}{i:Nat}{tk:Tok}{x:Value}{v:V}(hT:h.get? T=some { cls:=.type "tuple",data:=.seq #[.int i tk,x] })(r:L2.aS v x):du P w H h T (.tup [.int i,v]):=⟨by show 2<=sizeLine;decide,[.int i tk,x],.cons ⟨tk,rfl⟩ (.cons r .nil),⟨_,hT,rfl,0,rfl⟩,_,hT,rfl⟩
def gr(K:W.Frag)(t:Bool)(a:Addr)(H:Hp)(xs:List V):Prop:=match t with
|false=>cy K H a xs
|true=>dy K H a xs
def k6(t:Bool)(a u:Addr)(i:Nat)(h:Heap):Prop:=match t with
|false=>h.IsListIter u a i
|true=>h.IsTupleIter u a i
def lM(t:Bool)(a:Addr)(xs:Array Value)(h:Heap):Prop:=match t with
|false=>h.IsList a xs
|true=>h.IsTuple a xs
def oN{t:Bool}{a u:Addr}{i:Nat}{h:Heap}(e:k6 t a u i h):∃o,h.get? u=some o/\∀v,o.data≠.cell v:=by cases t <;> (obtain⟨o,ho,hc,hd⟩:=e;exact⟨o,ho,fun v z=>by rw[hd]at z;cases z⟩)
def oZ{t:Bool}{a u:Addr}{i:Nat}{h h':Heap}(e:k6 t a u i h)(k:∀o,h.get? u=some o->h'.get? u=some o):k6 t a u i h':=by cases t <;> (obtain⟨o,ho,r⟩:=e;exact⟨o,k o ho,r⟩)
def QH{t:Bool}{a:Addr}{xs:Array Value}{h h':Heap}(e:lM t a xs h)(k:∀o,h.get? a=some o->h'.get? a=some o):lM t a xs h':=by cases t <;> (obtain⟨o,ho,r⟩:=e;exact⟨o,k o ho,r⟩)
section
variable{X:Cx}{pz:List (Addr×Obj)}{σ:L2.St}{H:Hp}{s:h_}{t:Bool}{a u:Addr}{xs ys:List V}{i:Nat}
def uQ(I:Inv X pz σ H s)(hq:gr X.K t a H xs):∃its:List Value,aN xs its/\lM t a its.toArray s.heap:=by cases t with
|false=>obtain⟨its,rv,p,hz⟩:=I.list hq;exact⟨its,rv,p.isList⟩
|true=>obtain⟨its,rv,p,hz⟩:=I.tuple hq;exact⟨its,rv,p⟩
def oj(I:Inv X pz σ H s)(hc:X.calm=true)(hq:gr X.K t a H xs)(z:a≠u)(hi:k6 t a u i s.heap):∃(its:List Value)(St:Nat->Heap->Prop),aN xs its/\Qda X.prog X.w X.A.in1 u [u,a] its.toArray.size (fun i v=>its.toArray[i]? = some v) St/\St i s.heap/\∀j h',St j h'->k6 t a u j h':=by obtain⟨its,rv,p⟩:=uQ I hq;have hh:X.A.in1.handled=none:=I.ok.hd hc;cases t with
|false=>exact⟨its,_,rv,Draws.list hh u a z its.toArray,⟨hi,p⟩,fun j h' st=>st.1⟩
|true=>exact⟨its,_,rv,LR hh u a z its.toArray,⟨hi,p⟩,fun j h' st=>st.1⟩
def Bb(I:Inv X pz σ H s)(h1:gr X.K t a H xs)(h2:gr X.K t a H ys):xs=ys:=by cases t with
|false=>exact I.list_inj h1 h2
|true=>exact I.tuple_inj h1 h2
def pj(I:Inv X pz σ H s)(h1:gr X.K t a H xs):a<s.heap.objs.size:=by obtain⟨its,rv,p⟩:=uQ I h1;cases t <;> (obtain⟨o,ho,_⟩:=p;exact z_ ho)
end
def JN{P:C_}{w:N_}{K:W.Frag}{elts:List Expr}{k:Nat}{pos:Pos}{t:Bool}(a it e:Addr)(Y:e≠it)(Z:a≠it)(Id:e≠a):Turn P w K (.Tuple elts k pos) (nO (gr K t a)) [e,it] e (fun i h=>(∃old,IsEnum h e it i old)/\k6 t a it i h) where
 mem:=by simp
 obj:=fun i h st b hb=>by
  obtain⟨⟨old,he⟩,hi⟩:=st;rcases e_.mp hb with rfl|hb
  .exact⟨_,he,fun v z=>by have z':Data.fields _=Data.cell v:=z;cases z'⟩
  .rw[H_.mp hb];exact oN hi
 keep:=fun i h h' st kk=>by obtain⟨⟨old,he⟩,hi⟩:=st;exact⟨⟨old,kk e (by simp) _ he⟩,oZ hi fun o q=>kk it (by simp) o q⟩
 item:=by
  intro X hP hw hK hc i pz s σ H E I hf st hg;subst hP hw hK;obtain⟨xs,x,hq,hx⟩:=hg;obtain⟨⟨old,he⟩,hi⟩:=st;obtain⟨its,St,rv,D1,d1,f1⟩:=oj I hc hq Z hi;obtain⟨o1,LT,_⟩:=oN hi;have IO:i<its.toArray.size:=by have:=(i_.mp hx).1;rw[u_,<-rv.length];exact this
  refine wpAny_pyNext_enum_itemD D1 he d1 IO Y (by simp[Y,Id]) fun y h' tk hP ho LE hT hsz hk=>?_;refine⟨_,rfl,wpAny_letOwnedTupleGo_enum ho fun ld BT U=>?_⟩;obtain⟨u,hu,ru⟩:=rv.get hx;have hy:y=u:=by
   have:its[i]? = some y:=by simpa using hP
   rw[hu]at this;exact(E_ this).symm
  subst hy;have KK:s.heap.objs.size≠e:=ZV (z_ he);have Cl:ld.get? s.heap.objs.size=some { cls:=.type "tuple",data:=.seq #[.int i tk,y] }:=(U.2 _ KK).trans hT;refine⟨.ref s.heap.objs.size,upd H s.heap.objs.size (.tup [.int i,x]),Io (s:=s) (h':=ld) (t':=tk+1) (ch:=[e,it]) I hf (fun b ob hb q=>?_) (y_ _) (PF Cl ru),rfl,⟨_,x,I.hok.fresh (y_ _),rfl,rfl,fun ys hy=>by rw[Bb I hy hq];exact hx⟩,⟨⟨_,by simpa using BT⟩,oZ (f1 _ _ LE) fun o q=>(U.2 _ (ZP Y)).trans q⟩,fun b hb=>?_⟩
  .have hbe:b≠e:=fun z=>hb (by simp[z]);exact(U.2 b hbe).trans (hk b ob hbe (fun z=>hb (by simp[z])) q)
  .rw[bX ?_]
   .exact(hf b hb).1
   .rcases e_.mp hb with rfl|hb
    .exact G_ (z_ he)
    .rw[H_.mp hb];exact G_ (z_ LT)
 done:=by
  intro X hP hw hK hc i pz s σ H E I hf st hg;subst hP hw hK;obtain⟨xs,hq,hx⟩:=hg;obtain⟨⟨old,he⟩,hi⟩:=st;obtain⟨its,St,rv,D1,d1,f1⟩:=oj I hc hq Z hi;obtain⟨f0,f1,f2,f3,f4,f5⟩:=hf it (by simp);have hn:its.toArray.size=i:=by rw[u_,<-rv.length];exact hx
  exact wpAny_pyNext_enum_endD D1 he (by rw[hn];exact d1) fun h' eb=>⟨rfl,I.turned (t':=s.toks) (fun b o hb q=>eb b o hb q) f0 f1 f3 f4 f5⟩
 self:=fun _ _ _ _ _ st h=>let⟨⟨_,he⟩,_⟩:=st;Qce he h
end
def jv:D->Option String
|.non=>some "NoneType"
|.bl _=>some "bool"
|.int _=>some "int"
|.str _=>some "str"
|.tup _=>some "tuple"
|.lst _=>some "list"
|.dic _=>some "dict"
|.obj _ _=>none
def dR(t T:String):Bool:=t==T || (t == "bool" && T == "int")
def jM(T:String)(d:D):Option D:=(jv d).map fun t=>.bl (dR t T)
def ES(K:W.Frag)(x:V)(H:Hp)(t:String):Prop:=match x with
|.non=>t = "NoneType"
|.bl _=>t = "bool"
|.int _=>t = "int"
|.str _=>t = "str"
|.ref p=>(t = "list"/\∃xs,cy K H p xs)\/(t = "tuple"/\∃xs,dy K H p xs)\/(t = "dict"/\∃kvs,Rd H p (.dK kvs))
|_=>False
def GA{K:W.Frag}{G:GH}{H:Hp}{v:V}{d:D}{t:String}(gk:bW K G H)(h:RB K G H v d)(e:jv d=some t):ES K v H t:=by cases d with
|non=>cases e;rw[h.non gk];rfl
|bl b=>cases e;rw[h.bl gk];rfl
|int i=>cases e;rw[h.int gk];rfl
|str x=>cases e;rw[h.str gk];rfl
|tup ds=>cases e;obtain⟨a,xs,rfl,s,r⟩:=h.tup gk;exact .inr (.inl ⟨rfl,xs,s⟩)
|lst ds=>cases e;obtain⟨a,xs,rfl,s,r⟩:=h.lst gk;exact .inl ⟨rfl,xs,s⟩
|dic ds=>cases e;obtain⟨a,xs,rfl,s,r⟩:=h.dic gk;exact .inr (.inr ⟨rfl,xs,s⟩)
|obj _ _=>cases e
variable{p2:Pos}
def PZ:gp X (.builtin "isinstance") (fun xs H Q=>∃x t T b,xs=[x,.ty T]/\ES X.K x H t/\W.kitOne X.K (.type t) (.type T)=some b/\Q (.bl b) H):=by
 intro pz s σ H xs us Q I r h;obtain⟨x,t,T,b,rfl,ty,e,q⟩:=h;obtain⟨u,w',rfl,rx,ry⟩:=uF r;cases ry;have fin:∀tk,EP X pz σ Q (.bool b) { s with toks:=tk }:=fun tk=>⟨.bl b,H,I.tok tk,rfl,q⟩
 cases x with
|non=>cases rx;cases(show t = "NoneType" from ty);exact W.kia_one W.kitx_none I.kIn True.intro e (fun z=>nomatch z) fin
|bl y=>cases rx;cases(show t = "bool" from ty);exact W.kia_one W.kitx_bool I.kIn True.intro e (fun z=>nomatch z) fin
|int i=>obtain⟨t,rfl⟩:=rx;cases ty;exact W.kia_one W.kitx_int I.kIn True.intro e (fun z=>nomatch z) fin
|str i=>obtain⟨t,rfl⟩:=rx;cases ty;exact W.kia_one W.kitx_str I.kIn True.intro e (fun z=>nomatch z) fin
|ref p=>
  cases rx;rcases ty with⟨rfl,xs,hq⟩|⟨rfl,xs,hq⟩|⟨rfl,kvs,hq⟩
  .obtain⟨its,_,pl,_⟩:=I.list hq;obtain⟨o,ho,hc,_⟩:=pl.isList;exact W.kia_one W.kitx_list I.kIn ⟨o,ho,hc⟩ e (fun z=>nomatch z) fin
  .obtain⟨its,_,pl,_⟩:=I.tuple hq;obtain⟨o,ho,hc,_⟩:=pl;exact W.kia_one W.kitx_tuple I.kIn ⟨o,ho,hc⟩ e (fun z=>nomatch z) fin
  .obtain⟨_,_,vs,_,pp⟩:=(show du X.prog X.w H s.heap p (.dK kvs)from hq.ok I.hok)
   obtain⟨o,es,ep,h1,h2,_⟩:=pp;exact W.kia_one W.kitx_dict I.kIn ⟨o,h1,h2.1⟩ e (fun z=>nomatch z) fin
|_=>exact(show False from ty).elim
def n5(x:Str)(T:String)(hv:QaS x=some (.type T))(hk:∀(d:D)(t:String),jv d=some t->W.kitOne X.K (.type t) (.type T)=some (dR t T))(hg:Gl X "isinstance")(hm:X.mg "isinstance" = none)(U:Gl X x)(z:X.mg x=none)(he:SB X g m e f)(hn:x≠"__name__" := by decide)(hd:(x==("__debug__" : Str))=false:=by decide)(hs1:f_ [e,.Name x p2] X.env=(false,eval e X.env)::f_ [.Name x p2] X.env:=by rfl)(Z:f_ [.Name x p2] X.env=(false,eval (.Name x p2) X.env)::f_ [] X.env:=by rfl)(Y:(backTo pos (f_ [.Name x p2] X.env)).any (·.1)=false:=by rfl):SE X g m (.Call (.Name "isinstance" p) [e,.Name x p2] [] pos) (f1 f (jM T)):=by
 refine PE.imp (o8 PZ hg hm (by first|exact QbM|rfl) (fO he (fO (AO (v:=.ty T) U z hv rfl hn hd) iE Z) hs1) (by decide) (by decide) hs1 Y) fun σ H Q ⟨r,G,si,q⟩=>⟨r,G,si,cn (cw q) fun d q1 v G1 H1 w1 r1=>?_⟩
 obtain⟨d',e',q2⟩:=dQ q1;unfold jM at e';cases et:jv d with
|none=>rw[et]at e';cases e'
|some t=>rw[et]at e';cases e';exact⟨v,t,T,_,rfl,GA w1.ok r1 et,hk d t et,q2 _ G1 H1 w1 (.scl (.bl _))⟩
def qH{d:D}{t:String}(h:jv d=some t){P:String->Prop}(h1:P "NoneType")(h2:P "bool")(h3:P "int")(h4:P "str")(h5:P "tuple")(h6:P "list")(h7:P "dict"):P t:=by cases d <;> cases h <;> assumption
def Of(K:W.Frag)(d:D)(t:String)(h:jv d=some t):W.kitOne K (.type t) (.type "int")=some (dR t "int"):=qH (P:=fun t=>W.kitOne K (.type t) (.type "int")=some (dR t "int")) h (by kernel_rfl) (by kernel_rfl) (by kernel_rfl) (by kernel_rfl) (by kernel_rfl) (by kernel_rfl) (by kernel_rfl)
def Iq(K:W.Frag)(d:D)(t:String)(h:jv d=some t):W.kitOne K (.type t) (.type "bool")=some (dR t "bool"):=qH (P:=fun t=>W.kitOne K (.type t) (.type "bool")=some (dR t "bool")) h (by kernel_rfl) (by kernel_rfl) (by kernel_rfl) (by kernel_rfl) (by kernel_rfl) (by kernel_rfl) (by kernel_rfl)
def QZ(K:W.Frag)(d:D)(t:String)(h:jv d=some t):W.kitOne K (.type t) (.type "list")=some (dR t "list"):=qH (P:=fun t=>W.kitOne K (.type t) (.type "list")=some (dR t "list")) h (by kernel_rfl) (by kernel_rfl) (by kernel_rfl) (by kernel_rfl) (by kernel_rfl) (by kernel_rfl) (by kernel_rfl)
def Jj(K:W.Frag)(d:D)(t:String)(h:jv d=some t):W.kitOne K (.type t) (.type "tuple")=some (dR t "tuple"):=qH (P:=fun t=>W.kitOne K (.type t) (.type "tuple")=some (dR t "tuple")) h (by kernel_rfl) (by kernel_rfl) (by kernel_rfl) (by kernel_rfl) (by kernel_rfl) (by kernel_rfl) (by kernel_rfl)
variable{pos2:Pos}
def eF(lo:Int)(n:Nat):List V:=(g_ n).map fun(i:Nat)=>V.int (lo+(i:Int))
def Gm{K:W.Frag}{G:GH}(lo:Int)(n:Nat):cR K G (eF lo n) (eG lo n):=by
 unfold eF eG
 induction(g_ n)with
|nil=>exact .nil
|cons i l ih=>exact .cons (.scl (.int _)) ih
def Kf:∀{xs:List V}{us:List Value},xs.length=us.length->(∀(j:Nat) v u,xs[j]? = some v->us[j]? = some u->L2.aS v u)->aN xs us
|[],[],_,_=>.nil
|v::xs,u::us,hl,h=>.cons (h 0 v u rfl rfl) (Kf (by simpa using hl) fun j a b e1 e2=>h (j+1) a b (by simpa using e1) (by simpa using e2))
|[],_::_,hl,_=>by simp at hl
|_::_,[],hl,_=>by simp at hl
def Iy{lo:Int}{n:Nat}{z:Array Value}(h:QdC (fun i v=>∃t,v=.int (lo+i*1) t) z n):aN (eF lo n) z.toList:=by
 refine Kf (by simp[eF,h.1]) fun j v u e1 e2=>?_;have hj:j<n:=by have:=(i_.mp e1).1;simpa[eF]using this
 unfold eF at e1;rw[x_,Zx hj]at e1;cases e1;obtain⟨t,rfl⟩:=h.2 j u (by rw[<-Array.getElem?_toList];exact e2);exact⟨t,by simp⟩
def Jd:gp X (.type "range") (fun xs H Q=>∃j,xs=[.int j]/\∀p,H p=none->Q (.ref p) (upd H p (.rng 0 j))):=by intro pz s σ H xs us Q I r h;obtain⟨j,rfl,q⟩:=h;obtain⟨u,rfl,t,rfl⟩:=cY r;refine call_range_1 ⟨.ref s.heap.objs.size,_,I.laid (o:=.rng 0 j) (fun b o e=>c_ _ e) (y_ _) ⟨_,_,_,t_ _ rfl⟩,rfl,q _ (I.hok.fresh (y_ _))⟩
def T0(hc:X.calm=true):gp X (.type "list") (fun xs H Q=>∃p lo hi,xs=[.ref p]/\H p=some (.rng lo hi)/\(-(2^62)<=lo/\lo<2^62/\-(2^62)<=hi/\hi<2^62)/\(hi-lo).toNat<=sizeLine/\∀l,H l=none->Q (.ref l) (upd H l (.lst (eF lo (hi-lo).toNat)))):=by
 intro pz s σ H xs us Q I r h;obtain⟨p,lo,hi,rfl,hp,⟨h1,h2,h3,h4⟩,hz,q⟩:=h;obtain⟨u,rfl,rx⟩:=cY r;cases rx;obtain⟨t,u,v,ho⟩:=(show du X.prog X.w H s.heap p (.rng lo hi)from I.hok p _ hp)
 have e2:ZG lo hi 1=(((hi-lo).toNat:Nat):Int):=by rw[Qc7];split <;> omega
 refine call_list_range (I.ok.hd hc) (r:=p) (a:=lo) (b:=hi) (c:=1) ho (small_one h1 h2 h3 h4) e2 (by rw[J_]at hz;omega) fun h' tk U c' kp hS z=>?_;refine⟨.ref s.heap.objs.size,_,I.laid (t':=tk) kp (y_ _) (show du X.prog X.w _ h' _ (.lst (eF lo (hi-lo).toNat))from⟨by unfold eF;rw[q_,Qcf];exact hz,U.toList,c',Iy z,by rw[QbC];exact hS⟩),rfl,q _ (I.hok.fresh (y_ _))⟩
def tZ:List D->Option D
|[.int j]=>if-(2^62)<=j/\j<2^62/\j.toNat<=sizeLine then some (.lst (eG 0 j.toNat))else none
|_=>none
def LX{H:Hp}{p l:Addr}{o:HO}(h:upd H p o l=none):H l=none/\l≠p:=by
 by_cases e:l=p
 .subst e;rw[cQ]at h;cases h
 .rw[bX e]at h;exact⟨h,e⟩
def qr(hc:X.calm=true)(Y:Gl X "list")(Z:X.mg "list" = none)(hg:Gl X "range")(hm:X.mg "range" = none)(ha:iy X g m [a] fl)(hs:f_ [a] X.env=(false,eval a X.env)::f_ [] X.env:=by rfl)(U:f_ [.Call (.Name "range" p2) [a] [] pos2] X.env=(false,eval (.Call (.Name "range" p2) [a] [] pos2) X.env)::f_ [] X.env:=by rfl):SO X g m (.Call (.Name "list" p) [.Call (.Name "range" p2) [a] [] pos2] [] pos) (fC fl tZ):=by
 refine PE.imp (mJ (T0 hc) Y Z rfl (fO (mJ Jd hg hm Qei ha (by decide) (by decide) hs rfl) iE U) (by decide) (by decide) U rfl) fun σ H Q ⟨r,G,si,q⟩=>⟨r,G,si,cn (cw q) fun ds q1 vs G1 H1 w1 rs=>?_⟩
 obtain⟨d,e,q2⟩:=dQ q1;unfold tZ at e;split at e
 .split at e
  .rename_i j hj;cases e;cases rs with
  |cons r1 t=>cases t;refine⟨j,by rw[r1.int w1.ok],fun p hp=>⟨p,0,j,rfl,cQ,⟨by decide,by decide,hj.1,hj.2.1⟩,by simpa using hj.2.2,fun l hl=>?_⟩⟩;obtain⟨z,ld⟩:=LX hl;have w2:=Grow.new w1.ok hp (.rng 0 j);have w3:=Grow.new w2.ok hl (.lst (eF 0 (j-0).toNat));refine q2 l G1 _ (w1.trans (w2.trans w3)) (w1.back z) ⟨w1.ok.isN z,.lst cQ ?_⟩;rw[show j-0=j by omega];exact Gm 0 _
  .cases e
 .cases e
def Ky(K:W.Frag)(r:V->List V->Hp->VK->Prop)(k:D->List D->Option D):Prop:=∀(G:GH)(H:Hp)(v:V)(d:D)(vs:List V)(ds:List D)(d':D)(Q:VK),bW K G H->RB K G H v d->Paired (RB K G H) vs ds->k d ds=some d' ->(∀v' G' H',Grow K G H G' H'->RG K G' v' d'->Q v' H')->r v vs H Q
def yI(T:String):D->Bool
|.lst _=>T == "list"
|.tup _=>T == "tuple"
|.dic _=>T == "dict"
|.str _=>T == "str"
|.int _=>T == "int"
|_=>false
def Ny{K:W.Frag}{G:GH}{H:Hp}{v:V}{d:D}{T:String}(gk:bW K G H)(h:RB K G H v d)(t:yI T d=true):pG K T v H:=by cases d with
|lst ds=>obtain⟨a,xs,rfl,s,r⟩:=h.lst gk;exact .inl ⟨Z5 t,xs,s⟩
|tup ds=>
  have e:T = "tuple" := Z5 t;rcases h with h|⟨a,rfl,o⟩
  .cases h with
  |scl s=>cases s
  |ref q=>cases gk _ _ q with
   |tup r s=>exact .inr (.inl ⟨e,.inr ⟨_,r⟩⟩)
  |kc k=>cases k with
   |tup r s z=>exact .inr (.inl ⟨e,.inl z⟩)
  .cases o.ob
|dic ds=>obtain⟨a,xs,rfl,s,r⟩:=h.dic gk;exact .inr (.inr (.inl ⟨Z5 t,.inl ⟨xs,s⟩⟩))
|str x=>rw[h.str gk];exact Z5 t
|int x=>rw[h.int gk];exact Z5 t
|_=>cases t
def fM(T:String)(fo:FE)(fl:aL->Res (List D))(k:D->List D->Option D):FE:=fun r=>(fo r).bind fun d=>if yI T d=true then(fl r).bind fun ds=>dw (k d ds)else .stuck
section
variable{o:Expr}{fb fo:FE}{apos cpos:Pos}{ro:Bool}{x name:Str}{T id:String}{R:V->List V->Hp->VK->Prop}{k:D->List D->Option D}
def iW(pa:Qdi T)(slot:Slot T name id)(Id:typeOf (.builtin id)=pure (.type "method_descriptor"))(Cl:nN X id R)(hk:Ky X.K R k)(ho:SB X g m o fo)(ha:iy X g m (e::es) fl)(Y:Qac o name X.env (eval o X.env)=eval o X.env:=by rfl)(ld:((backTo cpos (f_ (e::es) X.env)).all (fun x=>! x.1)&&(QbX cpos (QaP [] X.env)).all (fun x=>x.1.isSome)&&decide ((e::es).length+([]:List Qcy).length+(if ([]:List Qcy).isEmpty then 0 else 1)<30))=true:=by rfl)(Z:(apos.endLine==cpos.line)=true:=by rfl)(BT:f_ (e::es) X.env=(false,eval e X.env)::f_ es X.env:=by rfl)(U:(backTo cpos (f_ es X.env)).any (·.1)=false:=by rfl):SE X g m (.Call (.Attribute o name apos) (e::es) [] cpos) (fM T fo fl k):=by
 refine PE.imp (zX pa slot Id Cl ho ha Y ld Z BT U) fun σ H Q ⟨r,G,si,q⟩=>⟨r,G,si,cn (cw q) fun d q1 v G1 H1 w1 r1=>?_⟩
 by_cases ht:yI T d=true
 .rw[if_pos ht]at q1;refine⟨Ny w1.ok r1 ht,r,G1,si.grow w1,iR (cw q1) w1 fun ds q2 vs G2 H2 w2 rs=>?_⟩;obtain⟨d',e',q3⟩:=dQ q2;exact hk G2 H2 v d vs ds d' Q w2.ok (r1.mono w2) rs e' fun v' G' H' w' z=>q3 v' G' H' ((w1.trans w2).trans w') z
 .rw[if_neg ht]at q1;exact q1.elim
def ka(x:V):List V->Option Nat
|[]=>none
|y::xs=>if i0 y x=true then some 0 else(ka x xs).map (· + 1)
def iP(x:D):List D->Option Nat
|[]=>none
|y::xs=>if gZ y x=true then some 0 else(iP x xs).map (· + 1)
def Bk(x:D):∀ds:List D,ka (gQ x) (ds.map gQ)=iP x ds
|[]=>rfl
|y::ds=>by show(if i0 (gQ y) (gQ x)=true then some 0 else(ka (gQ x) (ds.map gQ)).map (· + 1))=if gZ y x=true then some 0 else(iP x ds).map (· + 1);rw[Bk x ds];rfl
def Il{x:V}{xs:List V}{us:List Value}{j:Nat}(h0:aN xs us)(f:xs.all hV=true)(h:ka x xs=some j):∃hj:j<us.length,fS x us[j]=true/\∀i (hi:i<us.length),i<j->fS x us[i]=false:=by induction h0 generalizing j with
|nil=>cases h
|@cons y u xs us r t ih=>
  rw[Qas,P_]at f;unfold ka at h;by_cases hy:i0 y x=true
  .rw[if_pos hy]at h;cases h;exact⟨Nat.zero_lt_succ _,by show fS x u=true;rw[uG r f.1];exact hy,fun i _ U=>absurd U (Nat.not_lt_zero _)⟩
  .rw[if_neg hy]at h;cases e:ka x xs with
  |none=>rw[e]at h;cases h
  |some z=>rw[e]at h;cases h;obtain⟨a,b,c⟩:=ih f.2 e;refine⟨Nat.succ_lt_succ a,b,fun i hi U=>?_⟩;cases i with
   |zero=>show fS x u=false;rw[uG r f.1];simpa using hy
   |succ i=>exact c i (QcD hi) (QcD U)
def Ib(K:W.Frag):V->List V->Hp->VK->Prop:=fun x vs H Q=>∃p xs y j,x=.ref p/\vs=[y]/\dy K H p xs/\hV y=true/\xs.all hV=true/\ka y xs=some j/\Q (.int j) H
def ph:nN X "tuple.index" (Ib X.K):=by
 intro pz s σ H x vs v us Q I rx rv h;obtain⟨p,xs,y,j,rfl,rfl,hq,fy,fx,e,q⟩:=h;cases rx;obtain⟨u,rfl,ru⟩:=cY rv;obtain⟨its,r,pl,hz⟩:=I.tuple hq;obtain⟨o,ho,hc,n,hs⟩:=pl;obtain⟨a,b,c⟩:=Il r fx e;have hl:=r.length;obtain⟨ld,U,Z,z⟩:=o;simp only at hc hs;subst hc hs;refine QaB Zm ⟨_,ho,rfl⟩ PySem.F.entry_tuple_index (PySem.F.args_tuple_index_2 _ _)
  (TL p its.toArray n U z u (fS y) j (by simpa using a) (by simpa using b) (fun i hi Y=>by simpa using c i (by simpa using hi) Y)) ⟨ho,fun w hw=>o6 ru fy r fx w (by simpa using hw),⟨.int j,H,I.tok _,⟨_,rfl⟩,q⟩⟩
def Nh:D->List D->Option D
|.lst ds,[x]=>if dZ x=true/\ds.all dZ=true then(iP x ds).map fun j=>.int j else none
|.tup ds,[x]=>if dZ x=true/\ds.all dZ=true then(iP x ds).map fun j=>.int j else none
|_,_=>none
def SX{K:W.Frag}{G:GH}{H:Hp}{ds:List D}{xs:List V}{x d':D}{v:V}(gk:bW K G H)(rs:cR K G xs ds)(rx:RB K G H v x)(e:(if dZ x=true/\ds.all dZ=true then(iP x ds).map fun j=>D.int j else none)=some d'):∃j:Nat,d'=.int j/\hV v=true/\xs.all hV=true/\ka v xs=some j:=by
 by_cases hc:dZ x=true/\ds.all dZ=true
 .rw[if_pos hc]at e;obtain⟨e1,f1⟩:=RB.flat rx gk hc.1;obtain⟨e3,f3⟩:=E6 rs gk hc.2;cases ef:iP x ds with
 |none=>rw[ef]at e;cases e
 |some j=>rw[ef]at e;cases e;exact⟨j,rfl,f1,f3,by rw[e1,e3,Bk];exact ef⟩
 .rw[if_neg hc]at e;cases e
def mw(d:D)(ds:List D):Option D:=match d with
|.tup _=>Nh d ds
|_=>none
def pk{K:W.Frag}:Ky K (Ib K) mw:=by intro G H v d vs ds d' Q gk rv rs e q;cases d with
|tup zs=>cases ds with
 |nil=>cases e
 |cons x t=>cases t with
  |nil=>cases rs with
   |cons r1 rt=>cases rt;obtain⟨a,xs,rfl,s,r⟩:=rv.tup gk;obtain⟨j,rfl,h1,h2,h3⟩:=SX gk r r1 e;exact⟨a,xs,_,j,rfl,rfl,s,h1,h2,h3,q _ G H (Grow.refl gk) (.scl (.int _))⟩
  |cons _ _=>cases e
|_=>cases e
def lv(xs:List V):Bool:=xs.all fun x=>match x with|.int _=>true|_=>false
def Tl{xs:List V}(h:lv xs=true):xs.all hV=true:=by unfold lv at h;rw[Ze]at h ⊢;intro x hx;have:=h x hx;cases x <;> first|rfl|exact absurd this k_
def Jk{k:Int}{t:Tok}:∀{xs:List V}{us:List Value},aN xs us->lv xs=true->∀u∈us,QdP u (.int k t) (fS (.int k) u)
|_,_,.nil,_=>fun u hu=>by cases hu
|y::xs,u::us,.cons r rt,f=>fun u' hu=>by unfold lv at f;rw[Qas,P_]at f;cases y with
 |int i=>
   obtain⟨t',rfl⟩:=r;rcases e_.mp hu with rfl|hu
   .exact MeetsSeq.EqGives.int i k t' t
   .exact Jk rt f.2 u' hu
 |_=>exact absurd f.1 k_
def FU:V->List V->Hp->VK->Prop:=fun x vs H Q=>∃l xs k j,x=.ref l/\vs=[.int k]/\H l=some (.lst xs)/\lv xs=true/\ka (.int k) xs=some j/\Q .non (upd H l (.lst (xs.eraseIdx j)))
def Jl:nN X "list.remove" FU:=by
 intro pz s σ H x vs v us Q I rx rv h;obtain⟨l,xs,k,j,rfl,rfl,hH,hi,e,q⟩:=h;cases rx;obtain⟨u,rfl,t,rfl⟩:=cY rv;obtain⟨hz,its,n,r,hl,eo⟩:=I.lstM hH;obtain⟨a,b,c⟩:=Il r (Tl hi) e;have z:∀y,y∈its.toArray->QdP y (.int k t) (fS (.int k) y):=fun y hy=>Jk r hi y (by simpa using hy);have hsz:its.toArray.size<=sizeLine:=by rw[u_];omega
 refine QaB Qa5 ⟨_,eo,rfl⟩ PySem.F.entry_list_remove (PySem.F.args_list_remove_2 _ _) (MeetsSeq.list_remove l its.toArray n (.int k t) (fS (.int k)) z j (by simpa using a) (by simpa using b) (fun i hi U=>by simpa using c i (by simpa using hi) U) hsz) ⟨eo,?_⟩;refine⟨.non,_,I.lset (its':=its.eraseIdx j) hH eo ?_ ?_ ?_,rfl,q⟩
 .apply Array.toList_inj.mp;simp[Array.toList_eraseIdxIfInBounds]
 .exact aN.eraseIdx j r
 .have:=List.length_eraseIdx_le xs j;omega
def isInt:D->Bool
|.int _=>true
|_=>false
def Nk{K:W.Frag}{G:GH}{H:Hp}{xs:List V}{ds:List D}(h:cR K G xs ds)(gk:bW K G H)(hf:ds.all isInt=true):lv xs=true/\xs=ds.map gQ:=by induction h with
|nil=>exact⟨rfl,rfl⟩
|@cons x d xs ds r t ih=>rw[Qas,P_]at hf;obtain⟨h1,h2⟩:=ih hf.2;cases d with
 |int i=>have e:=r.int gk;subst e;refine⟨?_,by rw[U_,<-h2];rfl⟩;show lv _=true;unfold lv at h1 ⊢;rw[Qas,h1];rfl
 |_=>exact absurd hf.1 k_
def remD:D->List D->Option D
|.lst ds,[.int k]=>if ds.all isInt=true then(iP (.int k) ds).map fun j=>.lst (ds.eraseIdx j)else none
|_,_=>none
def Gk{K:W.Frag}:jT K FU remD:=by
 intro G H a d vs ds d' Q gk ow rs e q;unfold remD at e;split at e
 .split at e
  .rename_i zs k hall;cases ef:iP (.int k) zs with
  |none=>rw[ef]at e;cases e
  |some j=>rw[ef]at e;cases e;cases ow.ob with
   |lst r s=>cases rs with
    |cons r1 t=>cases t;obtain⟨h1,h2⟩:=Nk s gk hall;refine⟨a,_,k,j,rfl,by rw[r1.int gk],r,h1,?_,q _ (.lst cQ (Paired.er j s))⟩;rw[h2];exact(Bk (.int k) zs).trans ef
  .cases e
 .cases e
end
def db:Nat->List D->List D
|_,[]=>[]
|i,d::ds=>.tup [.int i,d]::db (i+1) ds
def qy:∀(i:Nat)(ds:List D),(db i ds).length=ds.length
|_,[]=>rfl
|i,d::ds=>congrArg (· + 1) (qy (i+1) ds)
def Bp:∀(i j:Nat)(ds:List D),(db i ds)[j]? = (ds[j]?).map fun d=>D.tup [.int ((i+j:Nat):Int),d]
|_,_,[]=>by simp[db]
|i,0,d::ds=>by simp[db]
|i,j+1,d::ds=>by show(db (i+1) ds)[j]? = _;rw[Bp (i+1) j ds];simp only[List.getElem?_cons_succ];rw[show i+1+j=i+(j+1)by omega]
def HM{K:W.Frag}{ds:List D}{G0:GH}{sq:Hp->List V->Prop}(h:∀G H,bO G0 G->bW K G H->∃xs,sq H xs/\cR K G xs ds):Yields K (nO sq) (db 0 ds) G0:=by
 refine⟨fun G H i w gk hi=>?_,fun G H i x H' d w gk y e=>?_,fun G H w gk=>?_⟩
 .obtain⟨xs,s,r⟩:=h G H w gk;rw[qy]at hi;have hl:=Paired.length r;exact⟨xs,xs[i],s,o_ (by omega)⟩
 .obtain⟨xs,s,r⟩:=h G H w gk;obtain⟨p,v,hp,rfl,rfl,hv⟩:=y;rw[Bp]at e;cases ed:ds[i]? with
 |none=>rw[ed]at e;cases e
 |some d0=>rw[ed]at e;simp only[Z8,QdD,QdE]at e;subst e;obtain⟨v',e1,rv⟩:=Paired.get r ed;have:=hv xs s;rw[e1]at this;cases this;exact⟨_,Grow.newF gk hp (.tup (.inl cQ) (.cons (.scl (.int _)) (.cons rv .nil))),.ref fW⟩
 .obtain⟨xs,s,r⟩:=h G H w gk;rw[qy];exact⟨xs,s,Paired.length r⟩
def jO(f:FE):FI:=fun r=>(f r).bind fun d=>(dw (cZ d)).bind fun ds=>.ok (db 0 ds)
section
variable{elts:List Expr}{kk:Nat}
def Hn{te:TE}(hg:Gl X "enumerate")(hm:X.mg "enumerate" = none)(he:PE X e te)(hs:f_ [e] X.env=(false,eval e X.env)::f_ [] X.env:=by rfl):PI X (.Tuple elts kk pos2) (.Call (.Name "enumerate" p) [e] [] pos) (fun σ H R=>te σ H fun x H1=>(∃a,x=.ref a/\(∃xs,cy X.K H1 a xs)/\R (nO fun H xs=>cy X.K H a xs) H1)\/∃a,x=.ref a/\(∃xs,dy X.K H1 a xs)/\R (nO fun H xs=>dy X.K H a xs) H1):=by
 intro pz s σ H R I h;refine Call_ (lx I hg hm boot_enumerate (ZI (bL (fO he iE hs pos pz s σ H (fun vs H1=>match vs with
 |[x]=>(∃a,x=.ref a/\(∃xs,cy X.K H1 a xs)/\R (nO fun H xs=>cy X.K H a xs) H1)\/∃a,x=.ref a/\(∃xs,dy X.K H1 a xs)/\R (nO fun H xs=>dy X.K H a xs) H1
 |_=>False) I h) fun us s1 ⟨vs,H1,I1,r1,q1⟩=>?_) hs rfl))
 .cases r1 with
 |nil=>exact q1.elim
 |@cons x u xs us rx rt=>cases rt with
 |cons _ _=>exact q1.elim
 |nil=>
  have fin:∀{h':Heap},h'.objs.size=s1.heap.objs.size+2->(∀b o,s1.heap.get? b=some o->h'.get? b=some o)->∀b∈[s1.heap.objs.size+1,s1.heap.objs.size],eL X pz H1 b:=fun hz kp b hb=>by
   have z:s1.heap.objs.size<=b:=by
    rcases e_.mp hb with rfl|hb
    .exact QcM _
    .rw[H_.mp hb];exact y_ _
   exact I1.fpOk z (I1.hok.fresh z)
  rcases q1 with⟨a,rfl,⟨xs,hq⟩,q⟩|⟨a,rfl,⟨xs,hq⟩,q⟩
  .cases rx;obtain⟨its,rv,pl,hz⟩:=I1.list hq;refine call_enumerate_list pl.isList fun h' he hi hsz kp=>Qce he ?_;exact⟨_,[s1.heap.objs.size+1,s1.heap.objs.size],_,_,H1,rfl,I1.kept (t':=s1.toks) kp,JN (t:=false) a _ _ (ZV (ZT _)) (G_ (pj (t:=false) I1 hq)) (ZV (Z6 (pj (t:=false) I1 hq))),⟨⟨_,he⟩,hi⟩,fin hsz kp,q⟩
  .cases rx;obtain⟨its,rv,pl,hz⟩:=I1.tuple hq;refine T4 (show s1.heap.IsTuple a its.toArray from pl) fun h' he hi hsz kp=>Qce he ?_;exact⟨_,[s1.heap.objs.size+1,s1.heap.objs.size],_,_,H1,rfl,I1.kept (t':=s1.toks) kp,JN (t:=true) a _ _ (ZV (ZT _)) (G_ (pj (t:=true) I1 hq)) (ZV (Z6 (pj (t:=true) I1 hq))),⟨⟨_,he⟩,hi⟩,fin hsz kp,q⟩
def L7(hg:Gl X "enumerate")(hm:X.mg "enumerate" = none)(he:SE X g m e f)(hs:f_ [e] X.env=(false,eval e X.env)::f_ [] X.env:=by rfl):iw X g m (.Tuple elts kk pos2) (.Call (.Name "enumerate" p) [e] [] pos) (jO f):=by
 refine PI.imp (Hn hg hm he hs) fun σ H R ⟨r,G,si,q⟩=>⟨r,G,si,cn (cw q) fun d q v G' H' w rv=>?_⟩
 obtain⟨ds,e,q⟩:=dQ (cw q);cases d with
|lst ds'=>cases e;obtain⟨a,xs,rfl,s,rs⟩:=rv.lst w.ok;refine .inl ⟨a,rfl,⟨xs,s⟩,q _ G' H' w (HM fun G H le gk=>?_)⟩;obtain⟨b,ys,e,s',r'⟩:=(rv.mono le).lst gk;cases e;exact⟨ys,s',r'⟩
|tup ds'=>cases e;obtain⟨a,xs,rfl,s,rs⟩:=rv.tup w.ok;refine .inr ⟨a,rfl,⟨xs,s⟩,q _ G' H' w (HM fun G H le gk=>?_)⟩;obtain⟨b,ys,e,s',r'⟩:=(rv.mono le).tup gk;cases e;exact⟨ys,s',r'⟩
|_=>cases e
end
def ko:List D->Option (List Int)
|[]=>some []
|.int i::ds=>(ko ds).map (i::·)
|_=>none
def PR{K:W.Frag}{G:GH}{H:Hp}(gk:bW K G H){ds:List D}{xs:List V}{ns:List Int}(h:cR K G xs ds)(e:ko ds=some ns):xs=ns.map V.int:=by induction h generalizing ns with
|nil=>cases e;rfl
|@cons x d xs ds r t ih=>cases d with
 |int i=>have e':(ko ds).map (i::·)=some ns:=e;cases q:ko ds with
  |none=>rw[q]at e';cases e'
  |some ms=>rw[q]at e';cases e';rw[r.int gk,ih q];rfl
 |_=>cases e
end DL
namespace DL
open PySem PyProof.Rows PySem.SeqAt PySem.MeetsSeq PySem.MeetsSeq2 PySem.MeetsSeq3 L2
section
open PySem.AutoSeq1 (wpAny_loadPart')
end
end DL
namespace DL
open PySem PyProof.Rows L2
end DL
namespace DL
open PySem PySem.Spec PyProof.Rows L2
section
variable{X:Cx}{pz:List (Addr×Obj)}{σ:L2.St}{H:Hp}{s:h_}
def Inv.keptN{h':Heap}(I:Inv X pz σ H s)(k:∀b o,b≠X.env.locals->s.heap.get? b=some o->h'.get? b=some o)(Y:∀m,s.heap.Ns X.env.locals m->h'.Ns X.env.locals m)(t':Nat):Inv X pz σ H { s with heap:=h',toks:=t' }:=by
 have U:∀b u,H b=some u->b≠X.env.locals:=fun b u e z=>by rw[z,I.free]at e;cases e
 refine I.step (g':=s.gens) (d':=s.drawn) (ch:=[]) (fun b hb=>absurd hb (by simp)) (fun b ob hL _ _ e _=>k b ob hL e) (fun b ob hL _ _ e _=>⟨ob.slots,k b ob hL e⟩) (fun b ob _ e n=>n)
  (fun b ob _ e=>?_) (fun b xs e=>e) (fun b ob u e=>e) (fun b ps e=>⟨#[],by rw[e];simp⟩) Y (fun b u e=>?_) I.bare
 .by_cases hb:b=X.env.locals
  .subst hb;obtain⟨m,hn,_⟩:=I.loc;obtain⟨o,_,_,ho',_⟩:=Y m hn;exact⟨o,ho'⟩
  .exact⟨ob,k b ob hb e⟩
 .refine(I.hok b u e).stay (fun cc v hc q=>k cc v ?_ q) (fun cc q=>q) fun cc xs q=>q;rcases hc with z|z
  .rw[z];exact U b u e
  .exact U cc _ z
end
section
variable{X:Cx}{g:GE}{m:List Md}{e a b:Expr}{es:List Expr}{fl:aL->Res (List D)}{fa fb:FE}{pos p:Pos}
def FR(K:W.Frag):R2:=fun x y H Q=>∃a b ys,x=.ref a/\y=.ref b/\dy K H a []/\dy K H b ys/\Q (.ref b) H
def Ou:cu X (Z_ .Add) (FR X.K):=by
 intro pz s σ H x y v u Q I rx ry h;obtain⟨a,b,ys,rfl,rfl,ha,hb,q⟩:=h;cases rx;cases ry;obtain⟨its,r1,p1,_⟩:=I.tuple ha;obtain⟨BT,r2,p2,_⟩:=I.tuple hb;cases r1;obtain⟨⟨cls,dd,data,sl⟩,ho,hc,n,hd⟩:=id p1;obtain⟨⟨ld,U,Z,Y⟩,ho2,z,n2,hd2⟩:=id p2;simp only at hc hd z hd2;subst hc hd z hd2;exact Qcr ⟨_,ho,rfl⟩ ⟨_,ho2,rfl⟩ Qcn Qc8 Qbl Qbd (Qa2 _ _)
  (tuple_addW0 a b _ _ n n2 dd U sl Y rfl) ⟨ho,ho2,⟨.ref b,H,I,rfl,q⟩⟩
def addE:D->D->Option D
|.tup [],.tup b=>some (.tup b)
|a,b=>addA a b
def OY{K:W.Frag}:fH K (fun x y H Q=>FR K x y H Q\/((∃i j,x=.int i/\y=.int j/\Q (.int (i+j)) H)\/(∃i j,x=.str i/\y=.str j/\i.length+j.length<=sizeLine/\Q (.str (i++j)) H)\/zR K x y H Q\/zS K x y H Q)) addE:=by
 intro G H v1 v2 d1 d2 d Q gk r1 r2 e q;unfold addE at e;split at e
 .cases e;rcases r1 with r1|⟨a',_,oo⟩
  .rcases r2 with r2|⟨a',_,oo⟩
   .obtain⟨a,xs,rfl,s1,t1⟩:=r1.tup gk;obtain⟨b,ys,rfl,s2,t2⟩:=r2.tup gk;cases t1;exact .inl ⟨a,b,ys,rfl,rfl,s1,s2,q _ G H (Grow.refl gk) r2⟩
   .cases oo.ob
  .cases oo.ob
 .exact .inr (GX G H v1 v2 d1 d2 d Q gk r1 r2 e q)
def NS(ha:SB X g m a fa)(hb:SB X g m b fb):SE X g m (.BinOp a .Add b pos) (f2 fa fb addE):=jX (cu.or Ou (cu.or GL (cu.or Ju (cu.or Hh Hi)))) OY ha hb
end
end DL
namespace DL
open PySem PyProof.Rows L2
section
open PySem.AutoSeq1 (wpAny_loadPart')
end
end DL
namespace DL
open PySem PyProof.Rows PySem.W
section
variable{n:Nat}{c:Nat->Nat->Bool}(as:∀i j,c i j=true->c j i=false)(tr:∀i j k,c j i=false->c k j=false->c k i=false)
include tr in
include as tr in
include tr in
include as tr in
include as tr in
include as tr in
include as tr in
include as tr in
include as tr in
include as tr in
include as tr in
include as tr in
end
end DL
section
namespace DL
end DL
end
namespace DL
open PySem PySem.Spec PyProof.Rows L2
variable{X:Cx}{pz:List (Addr×Obj)}{σ:L2.St}{H:Hp}{s:h_}
def Rh(bs:List Bool):((g_ bs.length).all fun i=>bs.getD i true)=bs.all id:=by
 rw[Zc,Ze,Ze];constructor
 .intro h b hb;obtain⟨i,hi,rfl⟩:=QbR hb;have:=h i (s_.mpr hi);simpa[A_,hi]using this
 .intro h i hi;have hi:=s_.mp hi;have:=h bs[i] (Qae _);simpa[A_,hi]using this
def Ri(bs:List Bool):((g_ bs.length).any fun i=>bs.getD i true)=bs.any id:=by
 rw[Zc,ZU,ZU];constructor
 .rintro⟨i,hi,h⟩
  have hi:=s_.mp hi;exact⟨bs[i],Qae _,by simpa[A_,hi]using h⟩
 .rintro⟨b,hb,h⟩
  obtain⟨i,hi,rfl⟩:=QbR hb;exact⟨i,s_.mpr hi,by simpa[A_,hi]using h⟩
def JO(hc:X.calm=true)(I:Inv X pz σ H s){p:Addr}{bs:List Bool}(hq:cy X.K H p (bs.map V.bl)){A:W_}(hA:A.handled=none){E:Value->h_->Prop}{Q:Value->h_->Prop}(h:∀I fp wr n P St tr it s₂,it=Value.ref I->Walks X.prog X.w A I fp wr n P St->St 0 s₂.heap->TruthOf X.prog X.w A P tr->n=bs.length->(∀i,tr i=bs.getD i true) ->(∀(h':Heap)(tk:Nat),(∀(b:Addr)(o:Obj),¬b∈wr->s₂.heap.get? b=some o->h'.get? b=some o)->Inv X pz σ H { heap:=h',gens:=s₂.gens,drawn:=s₂.drawn,toks:=tk,os:=s₂.os })->Q it s₂):w_ (B_ X.prog X.w) A (Qeg (.ref p)) Q E s:=by
 obtain⟨its,rv,pl,hz⟩:=I.list hq;have hl:=rv.length;rw[q_]at hl;refine PySem.Flt.iter_list_ pl.isList fun s₂ e2 hi ld hne=>?_;refine h s.heap.objs.size [s.heap.objs.size,p] [s.heap.objs.size] its.toArray.size _ _ (fun i=>bs.getD i true) _ s₂ rfl (Walks.list hA _ p hne its.toArray) hi ?_ (by rw[u_,hl]) (fun i=>rfl) fun h' tk k=>?_
 .intro i v s' Q' E' hv hq';have U:its[i]? = some v:=by simpa using hv
  have hi:i<its.length:=(i_.mp U).1;have Z:i<(bs.map V.bl).length:=by rw[q_];omega
  obtain⟨u,h1,h3⟩:=rv.get (i:=i) (x:=(bs.map V.bl)[i]) (o_ Z);rw[U]at h1;cases h1;rw[List.getElem_map]at h3;have h3':v=Value.bool bs[i]:=h3;subst h3';have e:bs.getD i true=bs[i]:=by
   have hb:i<bs.length:=by omega
   simp[A_,hb]
  have Y:Q' (bs.getD i true) s':=hq';rw[e]at Y;exact n_ Y
 .subst e2;have ne:∀b o,s.heap.get? b=some o->¬ b∈[s.heap.objs.size]:=fun b o e z=>by have:=H_.mp z;subst this;exact absurd (z_ e) (Zw _)
  exact Inv.keptN I (fun b o _ e=>k b o (ne b o e) (c_ _ e)) (fun m ⟨o,es,ep,e,z⟩=>⟨o,es,ep,k _ _ (ne _ _ e) (c_ _ e),z⟩) tk
def PX(hc:X.calm=true):gp X (.builtin "all") (fun xs H Q=>∃(p:Addr)(bs:List Bool),xs=[.ref p]/\cy X.K H p (bs.map V.bl)/\Q (.bl (bs.all id)) H):=by intro pz s σ H xs us Q I r h;obtain⟨p,bs,rfl,hq,q⟩:=h;obtain⟨u,rfl,rx⟩:=cY r;cases rx;refine call_all_walk (JO hc I hq (show X.A.in1.handled=none from I.ok.hd hc) fun J fp wr n P St tr it s₂ e1 e2 e3 e4 e5 e6 e7=>⟨J,fp,wr,n,P,St,tr,e1,e2,e3,e4,fun h' tk k=>?_⟩);have et:tr=fun i=>bs.getD i true:=funext e6;rw[e5,et,Rh];exact⟨.bl (bs.all id),H,e7 h' tk k,rfl,q⟩
def PY(hc:X.calm=true):gp X (.builtin "any") (fun xs H Q=>∃(p:Addr)(bs:List Bool),xs=[.ref p]/\cy X.K H p (bs.map V.bl)/\Q (.bl (bs.any id)) H):=by intro pz s σ H xs us Q I r h;obtain⟨p,bs,rfl,hq,q⟩:=h;obtain⟨u,rfl,rx⟩:=cY r;cases rx;refine call_any_walk (JO hc I hq (show X.A.in1.handled=none from I.ok.hd hc) fun J fp wr n P St tr it s₂ e1 e2 e3 e4 e5 e6 e7=>⟨J,fp,wr,n,P,St,tr,e1,e2,e3,e4,fun h' tk k=>?_⟩);have et:tr=fun i=>bs.getD i true:=funext e6;rw[e5,et,Ri];exact⟨.bl (bs.any id),H,e7 h' tk k,rfl,q⟩
def jd:List D->Option (List Bool)
|[]=>some []
|.bl b::ds=>(jd ds).map (b::·)
|_=>none
def GZ{K:W.Frag}{G:GH}{H:Hp}(gk:bW K G H){ds:List D}{xs:List V}{bs:List Bool}(h:cR K G xs ds)(e:jd ds=some bs):xs=bs.map V.bl:=by induction h generalizing bs with
|nil=>cases e;rfl
|@cons x d xs ds r t ih=>cases d with
 |bl b=>have e':(jd ds).map (b::·)=some bs:=e;cases e1:jd ds with
  |none=>rw[e1]at e';cases e'
  |some bs'=>rw[e1]at e';cases e';rw[ih e1,U_,(RG.rb (H:=H) r).bl gk]
 |_=>cases e
def allD:List D->Option D
|[.lst ds]=>(jd ds).map fun bs=>.bl (bs.all id)
|_=>none
def anyD:List D->Option D
|[.lst ds]=>(jd ds).map fun bs=>.bl (bs.any id)
|_=>none
def Me{K:W.Frag}:lX K (fun xs H Q=>∃(p:Addr)(bs:List Bool),xs=[.ref p]/\cy K H p (bs.map V.bl)/\Q (.bl (bs.all id)) H) allD:=by
 intro G H vs ds d Q gk rs e q;unfold allD at e;split at e
 .rename_i zs;cases ek:jd zs with
 |none=>rw[ek]at e;cases e
 |some bs=>rw[ek]at e;cases e;cases rs with
  |cons r1 t=>cases t;obtain⟨b,xs,rfl,s,r⟩:=r1.lst gk;have ex:=GZ gk r ek;subst ex;exact⟨b,bs,rfl,s,q _ G H (Grow.refl gk) (.scl (.bl _))⟩
 .cases e
def Mf{K:W.Frag}:lX K (fun xs H Q=>∃(p:Addr)(bs:List Bool),xs=[.ref p]/\cy K H p (bs.map V.bl)/\Q (.bl (bs.any id)) H) anyD:=by
 intro G H vs ds d Q gk rs e q;unfold anyD at e;split at e
 .rename_i zs;cases ek:jd zs with
 |none=>rw[ek]at e;cases e
 |some bs=>rw[ek]at e;cases e;cases rs with
  |cons r1 t=>cases t;obtain⟨b,xs,rfl,s,r⟩:=r1.lst gk;have ex:=GZ gk r ek;subst ex;exact⟨b,bs,rfl,s,q _ G H (Grow.refl gk) (.scl (.bl _))⟩
 .cases e
variable{g:GE}{m:List Md}{e:Expr}{pos p:Pos}
section
variable{es:List Expr}{fl:aL->Res (List D)}
def lV(hc:X.calm=true)(hg:Gl X "all")(hm:X.mg "all" = none)(ha:iy X g m (e::es) fl)(he:f_ (e::es) X.env=(false,eval e X.env)::f_ es X.env:=by rfl)(z:(backTo pos (f_ es X.env)).any (·.1)=false:=by rfl):SE X g m (.Call (.Name "all" p) (e::es) [] pos) (fC fl allD):=ik Me (o8 (PX hc) hg hm PyProof.Rows.boot_all ha (by decide) (by decide) he z)
def K0(hc:X.calm=true)(hg:Gl X "any")(hm:X.mg "any" = none)(ha:iy X g m (e::es) fl)(he:f_ (e::es) X.env=(false,eval e X.env)::f_ es X.env:=by rfl)(z:(backTo pos (f_ es X.env)).any (·.1)=false:=by rfl):SE X g m (.Call (.Name "any" p) (e::es) [] pos) (fC fl anyD):=ik Mf (o8 (PY hc) hg hm PyProof.Rows.boot_any ha (by decide) (by decide) he z)
end
def lq(h0 H:Hp):Prop:=∀a o,h0 a=some o->H a=some o
structure YieldsB(K:W.Frag)(h0:Hp)(J:It)(ds:List D)(G0:GH):Prop where
 go:∀G H (i:Nat),bO G0 G->bW K G H->lq h0 H->i<ds.length->J.go i H
 yld:∀G H (i:Nat) x H' d,bO G0 G->bW K G H->lq h0 H->J.yld i H x H'->ds[i]? = some d->∃G',Grow K G H G' H'/\RG K G' x d
 stop:∀G H,bO G0 G->bW K G H->lq h0 H->J.stop ds.length H
def Yields.toH{K:W.Frag}{h0:Hp}{J:It}{ds:List D}{G0:GH}(y:Yields K J ds G0):YieldsB K h0 J ds G0:=⟨fun G H i w gk _ hi=>y.go G H i w gk hi,fun G H i x H' d w gk _ q e=>y.yld G H i x H' d w gk q e,fun G H w gk _=>y.stop G H w gk⟩
def UJ(X:Cx)(g:GE)(m:List Md)(f:FI):TI:=fun σ H R=>∃r G,SI X g m r G σ H/\fin (f r) (fun ds=>∀J G' H',Grow X.K G H G' H'->YieldsB X.K g.h0 J ds G'->R J H') (XW X σ G H)
def nL(X:Cx)(g:GE)(m:List Md)(tg iter:Expr)(f:FI):Prop:=PI X tg iter (UJ X g m f)
def UL(X:Cx)(g:GE)(m:List Md)(f:FE):TE:=fun σ H Q=>∃r G,SI X g m r G σ H/\fin (f r) (fun d=>∀v G' H',Grow X.K G H G' H'->Bw X.K g.h0 G' H' v d->Q v H') (XW X σ G H)
def EU(X:Cx)(g:GE)(m:List Md)(e:Expr)(f:FE):Prop:=PE X e (UL X g m f)
variable{pos2:Pos}{elts:List Expr}{kk:Nat}
section
variable{m' mb:List Md}{tg a iter:Expr}{f:FE}{ro:Bool}{sts:List Stmt}{s1:FS}
def yH(i:Nat){x:Str}(hm:m[i]? = some .bw:=by rfl)(hN:X.N[i]? = some x:=by rfl)(hv:gA X.env.scope x:=by first|exact Or.inl rfl|exact Or.inr (Or.inl rfl)|exact Or.inr (Or.inr rfl))(hd:(x==("__debug__" : Str))=false:=by decide)(z:(x==("__classdict__" : Str))=false:=by decide):EU X g m (.Name x pos) fun r=>c8 r i:=by refine PE.imp (gP hN hv hd z) fun σ H Q ⟨r,G,si,q⟩=>?_;obtain⟨d,e,k⟩:=vJ q;obtain⟨v,e1,e2⟩:=si.bw i d e hm;exact⟨v,e1,k _ G H (Grow.refl si.gok) e2⟩
def Hj{K:W.Frag}{h0:Hp}{G0 G:GH}{H0 H:Hp}{a:Addr}{ds:List D}(o:Own K G0 H0 a (.lst ds))(h:h0 a≠none)(o0:lq h0 H0)(le:bO G0 G)(o1:lq h0 H):∃xs,cy K H a xs/\cR K G xs ds:=by cases e:h0 a with
|none=>exact absurd e h
|some u=>have h1:=o0 a u e;have h2:=o1 a u e;cases o.ob with
 |lst r s=>rw[h1]at r;cases r;exact⟨_,cy.of h2,cR.mono s le⟩
def ND{K:W.Frag}{h0:Hp}{ds:List D}{G0:GH}{a:Addr}(h:∀G H,bO G0 G->bW K G H->lq h0 H->∃xs,cy K H a xs/\cR K G xs ds):YieldsB K h0 (pL K a) ds G0:=by
 refine⟨fun G H i w gk o hi=>?_,fun G H i x H' d w gk o y e=>?_,fun G H w gk o=>?_⟩
 .obtain⟨xs,s,r⟩:=h G H w gk o;have hl:=Paired.length r;exact⟨xs,xs[i],s,o_ (by omega)⟩
 .obtain⟨xs,s,r⟩:=h G H w gk o;obtain⟨rfl,y⟩:=y;obtain⟨v,e1,rv⟩:=Paired.get r e;have:=y xs s;rw[e1]at this;cases this;exact⟨G,Grow.refl gk,rv⟩
 .obtain⟨xs,s,r⟩:=h G H w gk o;exact⟨xs,s,Qbj (Paired.length r)⟩
def SI.oldIn{r:aL}{G:GH}{st:L2.St}{H:Hp}(s:SI X g m r G st H):lq g.h0 H:=s.old
def GD(h:EU X g m e f):nL X g m tg e (bS cZ f):=by
 refine PI.imp (An h) fun σ H R ⟨r,G,si,q⟩=>⟨r,G,si,cn (cw q) fun d q v G' H' w rv=>?_⟩
 obtain⟨ds,e,q⟩:=dQ q;cases d with
|lst ds'=>
  cases e;rcases rv with rv|⟨a,rfl,o,ho⟩
  .obtain⟨a,xs,rfl,s,rs⟩:=rv.lst w.ok;exact .inl ⟨a,rfl,⟨xs,s⟩,q _ G' H' w (Bf rv).toH⟩
  .cases o.ob with
  |lst r s=>exact .inl ⟨a,rfl,⟨_,cy.of r⟩,q _ G' H' w (ND fun G2 H2 le _ o2=>Hj o ho (si.grow w).oldIn le o2)⟩
|tup ds'=>
  cases e;rcases rv with rv|⟨a,rfl,o,ho⟩
  .obtain⟨a,xs,rfl,s,rs⟩:=rv.tup w.ok;exact .inr ⟨a,rfl,⟨xs,s⟩,q _ G' H' w (AA rv).toH⟩
  .cases o.ob
|_=>cases e
def Be{K:W.Frag}{h0:Hp}{ds:List D}{G0:GH}{sq:Hp->List V->Prop}(h:∀G H,bO G0 G->bW K G H->lq h0 H->∃xs,sq H xs/\cR K G xs ds):YieldsB K h0 (nO sq) (db 0 ds) G0:=by
 refine⟨fun G H i w gk o hi=>?_,fun G H i x H' d w gk o y e=>?_,fun G H w gk o=>?_⟩
 .obtain⟨xs,s,r⟩:=h G H w gk o;rw[qy]at hi;have hl:=Paired.length r;exact⟨xs,xs[i],s,o_ (by omega)⟩
 .obtain⟨xs,s,r⟩:=h G H w gk o;obtain⟨p,v,hp,rfl,rfl,hv⟩:=y;rw[Bp]at e;cases ed:ds[i]? with
 |none=>rw[ed]at e;cases e
 |some d0=>rw[ed]at e;simp only[Z8,QdD,QdE]at e;subst e;obtain⟨v',e1,rv⟩:=Paired.get r ed;have:=hv xs s;rw[e1]at this;cases this;exact⟨_,Grow.newF gk hp (.tup (.inl cQ) (.cons (.scl (.int _)) (.cons rv .nil))),.ref fW⟩
 .obtain⟨xs,s,r⟩:=h G H w gk o;rw[qy];exact⟨xs,s,Paired.length r⟩
def HA(hg:Gl X "enumerate")(hm:X.mg "enumerate" = none)(he:EU X g m e f)(hs:f_ [e] X.env=(false,eval e X.env)::f_ [] X.env:=by rfl):nL X g m (.Tuple elts kk pos2) (.Call (.Name "enumerate" p) [e] [] pos) (jO f):=by
 refine PI.imp (Hn hg hm he hs) fun σ H R ⟨r,G,si,q⟩=>⟨r,G,si,cn (cw q) fun d q v G' H' w rv=>?_⟩
 obtain⟨ds,e,q⟩:=dQ (cw q);cases d with
|lst ds'=>
  cases e;rcases rv with rv|⟨a,rfl,o,ho⟩
  .obtain⟨a,xs,rfl,s,rs⟩:=rv.lst w.ok;refine .inl ⟨a,rfl,⟨xs,s⟩,q _ G' H' w (Be fun G H le gk _=>?_)⟩;obtain⟨b,ys,e,s',r'⟩:=(rv.mono le).lst gk;cases e;exact⟨ys,s',r'⟩
  .cases o.ob with
  |lst r s=>exact .inl ⟨a,rfl,⟨_,cy.of r⟩,q _ G' H' w (Be fun G2 H2 le _ o2=>Hj o ho (si.grow w).oldIn le o2)⟩
|tup ds'=>
  cases e;rcases rv with rv|⟨a,rfl,o,ho⟩
  .obtain⟨a,xs,rfl,s,rs⟩:=rv.tup w.ok;refine .inr ⟨a,rfl,⟨xs,s⟩,q _ G' H' w (Be fun G H le gk _=>?_)⟩;obtain⟨b,ys,e,s',r'⟩:=(rv.mono le).tup gk;cases e;exact⟨ys,s',r'⟩
  .cases o.ob
|_=>cases e
def uL(hp:QbT (B_ X.prog X.w) X.A X.env X.xe)(hc:X.calm=true){ft:FT}{fi:FI}(hi:nL X g m tg iter fi)(hg:SG X g m tg ft m)(hb:fU X g ro m m sts s1 m)(hs:∀x,Zq iter X.env x=pure x:=by intro _;rfl):SS X g ro mb m (.For tg iter sts [] pos) (lT m fi ft s1) m:=by
 refine⟨rfl,PS.imp (uI hp hc hi hg.2 hb.2 hs) fun D σ H ⟨r,G,si,q⟩=>⟨r,G,si,cn (gE si rfl q) fun ds q J G0 H0 w0 Y=>?_⟩⟩;refine⟨fun i n σ H=>∃r G,SI X g m r G σ H/\bO G0 G/\i<=ds.length/\n=ds.length-i/\cV X g ro m mb G D (bG ft s1 (ds.drop i) r),⟨ds.length,r,G0,si.grow w0,bO.refl G0,Zf _,rfl,cV.gle q w0.ge⟩,?_⟩
 rintro i n σ1 H1 ⟨r1,G1,si1,le1,hi,rfl,q1⟩
 by_cases U:i<ds.length
 .have hd:ds.drop i=ds[i]::ds.drop (i+1):=ZQ U;rw[hd]at q1;unfold bG at q1;refine .inr ⟨Y.go G1 H1 i le1 si1.gok si1.oldIn U,fun σ' H'=>∃r G,SI X g m r G σ' H'/\bO G0 G/\cV X g ro m mb G D (bG ft s1 (ds.drop (i+1)) r),fun σ' H' ⟨r',G',si',Z,q'⟩=>⟨ds.length-(i+1),by omega,r',G',si',Z,U,rfl,q'⟩,fun x H' y=>?_⟩;obtain⟨G',w',rv⟩:=Y.yld G1 H1 i x H' ds[i] le1 si1.gok si1.oldIn y (o_ U);have Z:bO G0 G':=le1.trans w'.ge;cases ld:ft ds[i] r1 with
 |none=>simp only[ld]at q1;exact q1.elim
 |some r2=>simp only[ld]at q1;refine⟨r1,G',ds[i],si1.grow w',rv,r2,ld,fun σ2 BT=>⟨r2,G',BT,?_⟩⟩;cases eb:s1 r2 with
  |nx r'=>simp only[eb]at q1;exact fun σ3 G3 H3 z si3=>⟨r',G3,si3,Z.trans z,cV.gle q1 (bO.trans w'.ge z)⟩
  |ct r'=>simp only[eb]at q1;exact fun σ3 G3 H3 z si3=>⟨r',G3,si3,Z.trans z,cV.gle q1 (bO.trans w'.ge z)⟩
  |bk r'=>simp only[eb]at q1;exact fun σ3 G3 H3 z si3=>q1 σ3 G3 H3 (bO.trans w'.ge z) si3
  |rt d=>simp only[eb]at q1;exact q1
  |exc x r'=>simp only[eb]at q1;exact fun pz e s' σ3 G3 H3 z=>q1 pz e s' σ3 G3 H3 (bO.trans w'.ge z)
  |stuck=>simp only[eb]at q1;exact q1
 .have e:i=ds.length:=by omega
  subst e;rw[QaV]at q1;exact .inl ⟨Y.stop G1 H1 le1 si1.gok si1.oldIn,q1 σ1 G1 H1 (bO.refl _) si1⟩
end
section
open HT (sIx)
section
variable{prog:C_}{w:N_}{A:W_}{E:Value->h_->Prop}{s:h_}
def TM{t sl:Addr}{items:Array Value}{vl vu:Value}{lo hi:Option Int}{Q:Value->h_->Prop}(ht:IsTup s.heap t items)(hs:s.heap.IsSliceOf sl vl vu .none)(pl:Qcs vl lo)(pu:Qcs vu hi)(hw:sIx items.size 0 lo=0/\sIx items.size items.size hi=items.size)(h:Q (.ref t) s):w_ (B_ prog w) A (Qct (.ref t) (.ref sl)) Q E s:=by
 obtain⟨os,U,z,Z⟩:=id hs;have Y:s.TypeIs (.ref sl) "slice" := ⟨os,U,z⟩
 unfold Qct
 try with_reducible refine ZJ ?_
 first|refine a_ (n_ ?_)|skip
 refine a_ (Qdv ht.typeIs (by decide) (a_ (ZH (name:=D_ "__getitem__") ht.typeIs Y9 (Qay Y9 ht.typeIs PyProof.Rows.entry_tuple_getitem ?_ (PyProof.Rows.args_tuple_getitem _ _)))));show w_ _ _ (QbZ (.ref t) >>= _) _ _ s;refine a_ (PyProof.Rows.tupleItemsOf_ ht (a_ (Qao Y ?_)));rw[if_pos (by decide)];refine a_ (HT.de hs pl pu ?_);rw[hw.1,hw.2];show w_ _ _ (if (((0:Nat):Int)==0&&(1:Int)==1&&(items.size-0)==items.size)=true then _ else _) _ _ s;rw[if_pos (by simp)];show w_ _ _ (Qb1 (.ref t) >>= _) _ _ s;unfold Qb1;refine a_ (a_ (Qao ht.typeIs (n_ ?_)));rw[if_pos (by decide)];refine a_ (Qdl ?_);show w_ _ _ (ret (.ref t)) _ _ s;exact n_ ⟨_,rfl,n_ h⟩
end
def Ev(K:W.Frag):V->Option Int->Option Int->Hp->VK->Prop:=fun x lo hi H Q=>∃a xs,x=.ref a/\dy K H a xs/\(sIx xs.length 0 lo=0/\sIx xs.length xs.length hi=xs.length)/\Q (.ref a) H
def Qw{X:Cx}:j8 X (Ev X.K):=by
 intro pz s σ H x v vl vu lo hi sl Q I rx hs pl pu h;obtain⟨a,xs,rfl,hx,hw,q⟩:=h;cases rx;obtain⟨its,r,ht,hz⟩:=I.tuple hx;have hlen:its.toArray.size=xs.length:=by rw[u_];exact r.length.symm
 exact⟨"tuple",_,Y9.lookup,ht.typeIs,TM ht hs pl pu (by rw[hlen];exact hw) ⟨.ref a,H,I,rfl,q⟩⟩
def kL(d:D)(lo hi:Option Int):Option D:=match d with
|.tup ds=>some (.tup (dM ds lo hi))
|.lst ds=>some (.lst (dM ds lo hi))
|_=>none
def gb(fa:FE)(fl fh:FP):FE:=fun r=>(fa r).bind fun d=>(fl r).bind fun lo=>(fh r).bind fun hi=>dw (kL d lo hi)
section
variable{X:Cx}{g:GE}{m:List Md}{e:Expr}{f fa:FE}{pos p2:Pos}
def O5{R:V->Option Int->Option Int->Hp->Prop}{fl fh:FP}{r:aL}{G:GH}{σ:L2.St}{H:Hp}{q:D->Prop}(si:SI X g m r G σ H)(h:fin (gb fa fl fh r) q (XW X σ G H))(hk:∀d lo hi v G2 H2 d',Grow X.K G H G2 H2->RB X.K G2 H2 v d->kL d lo hi=some d'->q d'->R v lo hi H2):tB X g m fa σ H fun x H1=>tP X g m fl σ H1 fun l H2=>tP X g m fh σ H2 fun u H3=>R x l u H3:=by refine⟨r,G,si,cn (cw h) fun d h1 v G1 H1 w1 r1=>⟨r,G1,si.grow w1,iR (cw h1) w1 fun lo h2 G2 H2 w2=>⟨r,G2,(si.grow w1).grow w2,?_⟩⟩⟩;refine iR (cw h2) (w1.trans w2) fun hi h3 G3 H3 w3=>?_;obtain⟨d',e,h4⟩:=dQ h3;exact hk d lo hi v G3 H3 d' ((w1.trans w2).trans w3) ((r1.mono w2).mono w3) e h4
def Q5{α:Type}{ds:List α}{lo hi:Option Int}(h:sIx ds.length 0 lo=0/\sIx ds.length ds.length hi=ds.length):dM ds lo hi=ds:=by unfold dM;rw[h.1,h.2];simp
def n8{lo hi:Option Expr}{fl fh:FP}(he:SB X g m e f)(hl:yQ X g m lo fl)(hu:yQ X g m hi fh):SE X g m (.Subscript e (.Slice lo hi none p2) pos) (gb f fl fh):=by refine PE.imp (QS (j8.or Qw (j8.or O6 Nn)) he hl hu) fun σ H Q ⟨r,G,si,q⟩=>?_;refine O5 si q fun d lo hi v G2 H2 d' w r1 e q2=>?_;cases d with
|tup ds=>
  cases e;rcases r1 with r1|⟨a',_,oo⟩
  .obtain⟨a,xs,rfl,s,r⟩:=r1.tup w.ok;by_cases hw:sIx ds.length 0 lo=0/\sIx ds.length ds.length hi=ds.length
   .refine .inl ⟨a,xs,rfl,s,by rw[Paired.length r];exact hw,?_⟩;rw[Q5 hw]at q2;exact q2 _ G2 H2 w r1
   .rw[<-Paired.length r]at hw;refine .inr (.inr ⟨a,xs,rfl,s,hw,fun p hp=>?_⟩);exact q2 _ _ _ (w.trans (Grow.newF w.ok hp (.tup (.inl cQ) (Fm r lo hi)))) (.ref fW)
  .cases oo.ob
|lst ds=>cases e;obtain⟨a,xs,rfl,s,r⟩:=r1.lst w.ok;exact .inr (.inl ⟨a,xs,rfl,s,fun p hp=>q2 _ _ _ (w.trans (Grow.newF w.ok hp (.lst (.inl cQ) (Fm r lo hi)))) (.ref fW)⟩)
|_=>cases e
end
end
section
open AutoSeq1 (wpAny_loadPart')
structure ZA(zp ti to u1 u2:Addr)(f1 f2:List Addr):Prop where
 a1:ti≠zp
 a2:to≠zp
 a3:u1≠zp
 a4:u2≠zp
 a5:to≠u1
 a6:to≠u2
 a7:u1≠u2
 a8:ti≠to/\ti≠u1/\ti≠u2
 b1:zp∉f1/\to∉f1/\u2∉f1
 b2:zp∉f2/\to∉f2/\u1∉f2
def _root_.PySem.Draws.at'{prog:C_}{w:N_}{A:W_}{it:Addr}{fp:List Addr}{n:Nat}{P:Nat->Value->Prop}{St:Nat->Heap->Prop}(D:Qda prog w A it fp n P St){i:Nat}{h h':Heap}{c:Addr}(st:St i h)(e:Heap.ExtBut c h h')(hc:c∉fp):St i h':=D.frame i h h' st fun b hb o q=>e b o (by rintro rfl;exact hc hb) q
section
variable{prog:C_}{w:N_}{A:W_}{E:Value->h_->Prop}{s:h_}{zp ti to u1 u2:Addr}{f1 f2:List Addr}{n1 n2:Nat}{P1 P2:Nat->Value->Prop}{St1 St2:Nat->Heap->Prop}{p q:Value}
def RZ{i:Nat}{Q:Value->h_->Prop}(Z:ZA zp ti to u1 u2 f1 f2)(D1:Qda prog w A u1 f1 n1 P1 St1)(D2:Qda prog w A u2 f2 n2 P2 St2)(hz:Qb2 s.heap zp ti to .none)(hi:Qau s.heap ti (.ref u1) (.ref u2))(ho:Qau s.heap to p q)(s1:St1 i s.heap)(s2:St2 i s.heap)(l1:i<n1)(l2:i<n2)(hQ:∀x y h' tk,P1 i x->P2 i y->Qb2 h' zp ti to (Qbh s.heap.objs.size)->Qau h' to x y->St1 (i+1) h'->St2 (i+1) h'->Qau h' s.heap.objs.size x y->h'.objs.size=s.heap.objs.size+1 ->(∀c o,c≠zp->c≠to->c≠u1->c≠u2->s.heap.get? c=some o->h'.get? c=some o)->Q (.ref s.heap.objs.size) { s with heap:=h',toks:=tk }):w_ (B_ prog w) A (QaT.«zip.__next__» ⟨[.ref zp],[]⟩) (fun fin s'=>∃v,fin=.done (.ret v)/\Q v s') E s:=by
 show w_ _ _ (Qep (.ref zp) 2 >>= _) _ _ _;refine a_ (Y5 hz rfl (x:=.bool false) rfl ?_);show w_ _ _ (Qep (.ref zp) 3 >>= _) _ _ _;refine a_ (Y5 hz rfl (x:=.ref ti) rfl (a_ (Z1 hi rfl ?_)));show w_ _ _ (Zz (.ref zp) >>= _) _ _ _;refine a_ ?_;unfold Zz;refine a_ (Y5 hz rfl (x:=.none) rfl (n_ ?_));simp only[if_true];refine a_ (Qdl (a_ (Y5 hz rfl (x:=.ref to) rfl (a_ (Qai hz (by simp) fun g1 Y k1=>?_)))));replace Y:Qb2 g1 zp ti to .ellipsis:=Y;refine a_ ?_;simp only[QdQ,Qd6,Qal,QcS];refine a_ (a_ (Qcj ?_));show w_ _ _ (Zb (.ref u1) >>= _) _ _ _;refine a_ (D1.item i _ _ _ l1 (D1.at' s1 k1.extBut Z.b1.1) fun x g2 t2 px Ty k2=>n_ ?_);have ho2:Qau g2 to p q:=k2.extBut _ _ Z.a5 (k1.extBut _ _ Z.a2 ho);refine a_ (Z1 ho2 rfl (a_ (QbD ho2 fun g3 Cl k3=>?_)));replace Cl:Qau g3 to x q:=Cl;refine a_ (Qd1 (n_ ?_));refine a_ (a_ (Qcj ?_));show w_ _ _ (Zb (.ref u2) >>= _) _ _ _;refine a_ (D2.item i _ _ _ l2 (D2.at' (D2.at' (D2.at' s2 k1.extBut Z.b2.1) k2.extBut Z.b2.2.2) k3.extBut Z.b2.2.1) fun y g4 t4 py Tm k4=>n_ ?_);have LE:Qau g4 to x q:=k4.extBut _ _ Z.a6 Cl;refine a_ (Z1 LE rfl (a_ (QbD LE fun g5 U k5=>?_)));replace U:Qau g5 to x y:=U;refine a_ (Qd1 (n_ (n_ ?_)));refine a_ (Z1 U rfl (a_ (wpAny_newTuple ?_)));have hsz:g5.objs.size=s.heap.objs.size:=by rw[k5.1,k4.1,k3.1,k2.1,k1.1]
 have IO:Qb2 g5 zp ti to .ellipsis:=k5.extBut _ _ Z.a2.symm (k4.extBut _ _ Z.a4.symm (k3.extBut _ _ Z.a2.symm (k2.extBut _ _ Z.a3.symm Y)));have ST:St1 (i+1) g5:=D1.at' (D1.at' (D1.at' Ty k3.extBut Z.b1.2.1) k4.extBut Z.b1.2.2) k5.extBut Z.b1.2.1;have LT:St2 (i+1) g5:=D2.at' Tm k5.extBut Z.b2.2.1;have ld:zp<g5.objs.size:=z_ IO;show w_ _ _ (QaZ (.ref zp) (.ref g5.objs.size) >>= _) _ _ _;refine a_ ?_;unfold QaZ;have US:Qb2 (g5.push { cls:=.type "tuple",data:=.seq #[x,y] }) zp ti to .ellipsis:=c_ _ IO;refine a_ (Qai US (by simp) fun g7 BT k7=>?_);replace BT:Qb2 g7 zp ti to (Qbh g5.objs.size):=BT;refine Qai BT (by simp) fun g8 z k8=>?_;replace z:Qb2 g8 zp ti to (Qbh g5.objs.size):=z;have up:∀c o,c≠zp->g5.get? c=some o->g8.get? c=some o:=fun c o c1 e=>k8.extBut _ _ c1 (k7.extBut _ _ c1 (c_ _ e));have Id:Qau g8 g5.objs.size x y:=k8.extBut _ _ (ZV ld) (k7.extBut _ _ (ZV ld) (t_ _ rfl));have KK:g8.objs.size=g5.objs.size+1:=by rw[k8.1,k7.1,Zj]
 rw[hsz]at z Id KK;refine n_ ⟨_,rfl,?_⟩;show Q (.ref g5.objs.size) _;rw[hsz];refine hQ x y g8 _ px py z (up _ _ Z.a2 U) (D1.frame _ _ _ ST fun b hb o e=>up b o (by rintro rfl;exact Z.b1.1 hb) e) (D2.frame _ _ _ LT fun b hb o e=>up b o (by rintro rfl;exact Z.b2.1 hb) e) Id KK fun c o c1 c2 c3 c4 e=>up c o c1 ?_;exact k5.extBut _ _ c2 (k4.extBut _ _ c4 (k3.extBut _ _ c2 (k2.extBut _ _ c3 (k1.extBut _ _ c1 e))))
def Rt{i:Nat}{Q:Fin->h_->Prop}(Z:ZA zp ti to u1 u2 f1 f2)(D1:Qda prog w A u1 f1 n1 P1 St1)(D2:Qda prog w A u2 f2 n2 P2 St2)(hz:Qb2 s.heap zp ti to .none)(hi:Qau s.heap ti (.ref u1) (.ref u2))(ho:Qau s.heap to p q)(s1:St1 i s.heap)(s2:St2 i s.heap)(z:i=n1\/(i<n1/\i=n2))(hE:∀h' e tk,(∀c o,c≠zp->c≠to->c≠u1->c≠u2->s.heap.get? c=some o->h'.get? c=some o)->(∃o,h'.get? e=some o/\o.cls=.type "StopIteration")->E (.ref e) { s with heap:=h',toks:=tk }):w_ (B_ prog w) A (QaT.«zip.__next__» ⟨[.ref zp],[]⟩) Q E s:=by
 show w_ _ _ (Qep (.ref zp) 2 >>= _) _ _ _;refine a_ (Y5 hz rfl (x:=.bool false) rfl ?_);show w_ _ _ (Qep (.ref zp) 3 >>= _) _ _ _;refine a_ (Y5 hz rfl (x:=.ref ti) rfl (a_ (Z1 hi rfl ?_)));show w_ _ _ (Zz (.ref zp) >>= _) _ _ _;refine a_ ?_;unfold Zz;refine a_ (Y5 hz rfl (x:=.none) rfl (n_ ?_));simp only[if_true];refine a_ (Qdl (a_ (Y5 hz rfl (x:=.ref to) rfl (a_ (Qai hz (by simp) fun g1 ld k1=>?_)))));replace ld:Qb2 g1 zp ti to .ellipsis:=ld;refine a_ ?_;simp only[QdQ,Qd6,Qal,QcS];refine a_ (a_ (Qcj ?_));show w_ _ _ (Zb (.ref u1) >>= _) _ _ _;rcases z with z|⟨IO,z⟩
 .subst z;refine a_ (D1.done _ _ _ (D1.at' s1 k1.extBut Z.b1.1) fun g2 e k2 he=>?_);obtain⟨oe,U,Y⟩:=he;have Id:Qb2 g2 zp ti to .ellipsis:=k2 _ _ Z.a3.symm ld;have BT:e≠zp:=fun x=>by subst x;rw[Id]at U;cases U;simp at Y
  exact Qai Id (by simp) fun g3 _ k3=>hE g3 e _ (fun c o c1 _ c3 _ x=>k3.extBut _ _ c1 (k2 _ _ c3 (k1.extBut _ _ c1 x))) ⟨oe,k3.extBut _ _ BT U,Y⟩
 .subst z;refine a_ (D1.item _ _ _ _ IO (D1.at' s1 k1.extBut Z.b1.1) fun x g2 t2 px KK k2=>n_ ?_);have ho2:Qau g2 to p q:=k2.extBut _ _ Z.a5 (k1.extBut _ _ Z.a2 ho);refine a_ (Z1 ho2 rfl (a_ (QbD ho2 fun g3 LE k3=>?_)));refine a_ (Qd1 (n_ ?_));refine a_ (a_ (Qcj ?_));show w_ _ _ (Zb (.ref u2) >>= _) _ _ _;refine a_ (D2.done _ _ _ (D2.at' (D2.at' (D2.at' s2 k1.extBut Z.b2.1) k2.extBut Z.b2.2.2) k3.extBut Z.b2.2.1) fun g4 e k4 he=>?_);obtain⟨oe,U,Y⟩:=he;have Cl:Qb2 g4 zp ti to .ellipsis:=k4 _ _ Z.a4.symm (k3.extBut _ _ Z.a2.symm (k2.extBut _ _ Z.a3.symm ld));have BT:e≠zp:=fun x=>by subst x;rw[Cl]at U;cases U;simp at Y
  exact Qai Cl (by simp) fun g5 _ k5=>hE g5 e _ (fun c o c1 c2 c3 c4 x=>k5.extBut _ _ c1 (k4 _ _ c4 (k3.extBut _ _ c2 (k2.extBut _ _ c3 (k1.extBut _ _ c1 x))))) ⟨oe,k5.extBut _ _ BT U,Y⟩
def Ta{i:Nat}{Q:Option Value->h_->Prop}(Z:ZA zp ti to u1 u2 f1 f2)(D1:Qda prog w A.in1 u1 f1 n1 P1 St1)(D2:Qda prog w A.in1 u2 f2 n2 P2 St2)(hz:Qb2 s.heap zp ti to .none)(hi:Qau s.heap ti (.ref u1) (.ref u2))(ho:Qau s.heap to p q)(s1:St1 i s.heap)(s2:St2 i s.heap)(l1:i<n1)(l2:i<n2)(hQ:∀x y h' tk,P1 i x->P2 i y->Qb2 h' zp ti to (Qbh s.heap.objs.size)->Qau h' to x y->St1 (i+1) h'->St2 (i+1) h'->Qau h' s.heap.objs.size x y->h'.objs.size=s.heap.objs.size+1 ->(∀c o,c≠zp->c≠to->c≠u1->c≠u2->s.heap.get? c=some o->h'.get? c=some o)->Q (some (.ref s.heap.objs.size)) { s with heap:=h',toks:=tk }):w_ (B_ prog w) A (QcL (.ref zp)) Q E s:=by
 have hT:s.TypeIs (.ref zp) "zip" := ⟨_,hz,rfl⟩
 unfold QcL;exact a_ (wpAny_attempt (ZH (name:=D_ "__next__") hT F.slot_zip_next (Qay F.slot_zip_next hT F.entry_zip_next
   (RZ Z D1 D2 hz hi ho s1 s2 l1 l2 fun x y h' tk b1 b2 b3 b4 b5 b6 b7 b8 b9=>n_ (hQ x y h' tk b1 b2 b3 b4 b5 b6 b7 b8 b9)) (F.args_zip_next_1 _))))
def T9{i:Nat}{Q:Option Value->h_->Prop}(Z:ZA zp ti to u1 u2 f1 f2)(D1:Qda prog w A.in1 u1 f1 n1 P1 St1)(D2:Qda prog w A.in1 u2 f2 n2 P2 St2)(hz:Qb2 s.heap zp ti to .none)(hi:Qau s.heap ti (.ref u1) (.ref u2))(ho:Qau s.heap to p q)(s1:St1 i s.heap)(s2:St2 i s.heap)(z:i=n1\/(i<n1/\i=n2))(hQ:∀h' tk,(∀c o,c≠zp->c≠to->c≠u1->c≠u2->s.heap.get? c=some o->h'.get? c=some o)->Q none { s with heap:=h',toks:=tk }):w_ (B_ prog w) A (QcL (.ref zp)) Q E s:=by
 have hT:s.TypeIs (.ref zp) "zip" := ⟨_,hz,rfl⟩
 unfold QcL;refine a_ (wpAny_attempt (ZH (name:=D_ "__next__") hT F.slot_zip_next (Qay F.slot_zip_next hT F.entry_zip_next (Rt Z D1 D2 hz hi ho s1 s2 z fun h' e tk hk he=>?_) (F.args_zip_next_1 _))));obtain⟨o,ho,hc⟩:=he;exact a_ (wpAny_isInstance (T := "StopIteration") (b:=true) ⟨o,ho,hc⟩ isSubtype_stop (n_ (hQ _ _ hk)))
end
abbrev jw(c:String)(l:Addr):Obj:={ cls:=.type c,data:=.fields #[.ref l,.int 0 0] }
abbrev wD(h:Heap)(c1 c2:String)(l1 l2:Addr):Heap:=(h.push (jw c1 l1)).push (jw c2 l2)
abbrev wC(h:Heap)(c1 c2:String)(l1 l2:Addr):Heap:=(wD h c1 c2 l1 l2).push { cls:=.type "tuple",data:=.seq #[.ref h.objs.size,.ref (h.push (jw c1 l1)).objs.size] }
abbrev pd(h:Heap)(c1 c2:String)(l1 l2:Addr):Heap:=(wC h c1 c2 l1 l2).push { cls:=.type "tuple",data:=.seq #[.none,.none] }
abbrev lz(h:Heap)(c1 c2:String)(l1 l2:Addr):Heap:=(pd h c1 c2 l1 l2).push { cls:=.type "zip",data:=.fields #[.none,.bool false,.bool false,.ref (wD h c1 c2 l1 l2).objs.size,.ref (wC h c1 c2 l1 l2).objs.size] }
abbrev kZ(t:Bool):String:=match t with
|false => "list_iterator"
|true => "tuple_iterator"
def Fz{prog:C_}{w:N_}{A:W_}{E:Value->h_->Prop}{s:h_}{t:Bool}{l:Addr}{xs:Array Value}{Q:Value->h_->Prop}(e:lM t l xs s.heap)(h:Q (.ref s.heap.objs.size) { s with heap:=s.heap.push (jw (kZ t) l) }):w_ (B_ prog w) A (Qeg (.ref l)) Q E s:=by cases t with
|false=>exact Qbi e h
|true=>exact QaC e h
def QB(t1 t2:Bool)(l1 l2:Addr)(xs ys:Array Value):Meets (QaT.«zip.__new__» ⟨[.type "zip",.ref l1,.ref l2],[]⟩) (fun _ R s=>lM t1 l1 xs s.heap/\lM t2 l2 ys s.heap /\R (.ok (.ret (.ref (pd s.heap (kZ t1) (kZ t2) l1 l2).objs.size))) { s with heap:=lz s.heap (kZ t1) (kZ t2) l1 l2 }):=
 .of_wp fun prog w A R s h=>by
  obtain⟨hp,gg,dd,tk,os⟩:=s;obtain⟨q1,q2,h⟩:=h;have z:=sub_zip;have e1:lM t1 l1 xs (Qd0 ⟨hp,gg,dd,tk,os⟩):=q1;have e2:lM t2 l2 ys (Qd0 ⟨hp.push (jw (kZ t1) l1),gg,dd,tk,os⟩):=QH q2 fun o=>c_ _
  wp_walk using Fz e1,Fz e2
  exact⟨_,rfl,h⟩
section
variable{prog:C_}{w:N_}{A:W_}{E:Value->h_->Prop}{s:h_}
def tj(s:h_)(c1 c2:String)(l1 l2:Addr)(Q:Value->h_->Prop):Prop:=∀h',Qb2 h' (s.heap.objs.size+4) (s.heap.objs.size+2) (s.heap.objs.size+3) .none->Qau h' (s.heap.objs.size+2) (.ref s.heap.objs.size) (.ref (s.heap.objs.size+1)) ->Qau h' (s.heap.objs.size+3) .none .none->h'.get? s.heap.objs.size=some (jw c1 l1)->h'.get? (s.heap.objs.size+1)=some (jw c2 l2) ->(∀c o,s.heap.get? c=some o->h'.get? c=some o)->Q (.ref (s.heap.objs.size+4)) { s with heap:=h' }
def Om{c1 c2:String}{l1 l2:Addr}{Q:Value->h_->Prop}(h:tj s c1 c2 l1 l2 Q):(∃o,(lz s.heap c1 c2 l1 l2).get? (pd s.heap c1 c2 l1 l2).objs.size=some o/\o.cls=.type "zip")/\Q (.ref (pd s.heap c1 c2 l1 l2).objs.size) { s with heap:=lz s.heap c1 c2 l1 l2 }:=by
 have z1:(s.heap.push (jw c1 l1)).objs.size=s.heap.objs.size+1:=Zj ..;have z2:(wD s.heap c1 c2 l1 l2).objs.size=s.heap.objs.size+2:=by rw[Zj,z1]
 have z3:(wC s.heap c1 c2 l1 l2).objs.size=s.heap.objs.size+3:=by rw[Zj,z2]
 have z4:(pd s.heap c1 c2 l1 l2).objs.size=s.heap.objs.size+4:=by rw[Zj,z3]
 have g5:(lz s.heap c1 c2 l1 l2).get? (pd s.heap c1 c2 l1 l2).objs.size=some _:=t_ _ rfl;have g4:(lz s.heap c1 c2 l1 l2).get? (wC s.heap c1 c2 l1 l2).objs.size=some _:=c_ _ (t_ _ rfl);have g3:(lz s.heap c1 c2 l1 l2).get? (wD s.heap c1 c2 l1 l2).objs.size=some _:=c_ _ (c_ _ (t_ _ rfl));have g2:(lz s.heap c1 c2 l1 l2).get? (s.heap.push (jw c1 l1)).objs.size=some (jw c2 l2):=c_ _ (c_ _ (c_ _ (t_ _ rfl)));have g1:(lz s.heap c1 c2 l1 l2).get? s.heap.objs.size=some (jw c1 l1):=c_ _ (c_ _ (c_ _ (c_ _ (t_ _ rfl))));rw[z2,z3,z4]at g5;rw[z1,z2]at g3;rw[z3]at g4;rw[z1]at g2;rw[z4];exact⟨⟨_,g5,rfl⟩,h _ g5 g3 g4 g1 g2 fun c o x=>c_ _ (c_ _ (c_ _ (c_ _ (c_ _ x))))⟩
end
end
def HD{t:Bool}{a u:Addr}{h:Heap}(e:h.get? u=some (jw (kZ t) a)):k6 t a u 0 h:=by cases t <;> exact⟨_,e,rfl,rfl⟩
section
variable{t:Bool}{a u:Addr}{xs ys:List V}{i:Nat}
def RT{h':Heap}{ch:List Addr}{t':Nat}(I:Inv X pz σ H s)(U:∀b∈ch,eL X pz H b)(k:∀b ob,b∉ch->s.heap.get? b=some ob->h'.get? b=some ob):Inv X pz σ H { s with heap:=h',toks:=t' }:=by
 have trk:∀b u,H b=some u->b∉ch:=fun b u e hb=>by rw[(U b hb).1]at e;cases e
 refine I.step (g':=s.gens) (d':=s.drawn) (ch:=ch) (fun b hb=>?_) (fun b ob _ _ hc e _=>k b ob hc e) (fun b ob _ _ hc e _=>⟨ob.slots,k b ob hc e⟩) (fun b ob hc e n=>n)
  (fun b ob hc e=>⟨ob,k b ob hc e⟩) (fun b xs e=>e) (fun b ob u e=>e) (fun b ps e=>⟨#[],by rw[e];simp⟩) (fun m hm=>?_) (fun b u e=>?_) I.bare
 .obtain⟨z0,z1,z2,z3,z4,z5⟩:=U b hb;exact⟨z3,z1,z4,z5⟩
 .obtain⟨ob,es,ep,ho,r⟩:=hm;exact⟨ob,es,ep,k _ ob (fun hb=>(U _ hb).2.1 rfl) ho,r⟩
 .refine(I.hok b u e).stay (fun c v hc q=>k c v ?_ q) (fun c q=>q) fun c xs q=>q;rcases hc with z|z
  .rw[z];exact trk b u e
  .exact trk c _ z
end
def yR(sq1 sq2:Hp->List V->Prop):It:=⟨fun i H=>∃xs ys x y,sq1 H xs/\sq2 H ys/\xs[i]? = some x/\ys[i]? = some y,fun i H x H'=>∃p v u,H p=none/\x=.ref p/\H'=upd H p (.tup [v,u])/\(∀xs,sq1 H xs->xs[i]? = some v)/\∀ys,sq2 H ys->ys[i]? = some u,fun i H=>∃xs ys,sq1 H xs/\sq2 H ys/\min xs.length ys.length=i⟩
def QN{P:C_}{w:N_}{H:Hp}{h:Heap}{T:Addr}{x y:Value}{v u:V}(hT:h.get? T=some { cls:=.type "tuple",data:=.seq #[x,y] })(r1:L2.aS v x)(r2:L2.aS u y):du P w H h T (.tup [v,u]):=⟨by show 2<=sizeLine;decide,[x,y],.cons r1 (.cons r2 .nil),⟨_,hT,rfl,0,rfl⟩,_,hT,rfl⟩
def Rr{P:C_}{w:N_}{K:W.Frag}{elts:List Expr}{k:Nat}{pos:Pos}{t1 t2:Bool}(a b zp ti to u1 u2:Addr)(Z:ZA zp ti to u1 u2 [u1,a] [u2,b])(h1:a≠u1)(h2:b≠u2):Turn P w K (.Tuple elts k pos) (yR (gr K t1 a) (gr K t2 b)) [zp,ti,to,u1,u2] zp (fun i h=>Qb2 h zp ti to .none/\Qau h ti (.ref u1) (.ref u2)/\(∃p q,Qau h to p q)/\k6 t1 a u1 i h/\k6 t2 b u2 i h) where
 mem:=by simp
 obj:=fun i h st c hc=>by
  obtain⟨hz,hi,⟨p,q,ho⟩,s1,s2⟩:=st;simp only[e_,p_,or_false]at hc;rcases hc with rfl|rfl|rfl|rfl|rfl
  .exact⟨_,hz,fun v z=>by have z':Data.fields _=Data.cell v:=z;cases z'⟩
  .exact⟨_,hi,fun v z=>by have z':Data.seq _ _=Data.cell v:=z;cases z'⟩
  .exact⟨_,ho,fun v z=>by have z':Data.seq _ _=Data.cell v:=z;cases z'⟩
  .exact oN s1
  .exact oN s2
 keep:=fun i h h' st kk=>by obtain⟨hz,hi,⟨p,q,ho⟩,s1,s2⟩:=st;exact⟨kk zp (by simp) _ hz,kk ti (by simp) _ hi,⟨p,q,kk to (by simp) _ ho⟩,oZ s1 fun o e=>kk u1 (by simp) o e,oZ s2 fun o e=>kk u2 (by simp) o e⟩
 item:=by
  intro X hP hw hK hc i pz s σ H E I hf st hg;subst hP hw hK;obtain⟨xs,ys,x,y,q1,q2,hx,hy⟩:=hg;obtain⟨hz,hi,⟨p,q,ho⟩,s1,s2⟩:=st;obtain⟨Y,St1,rv1,D1,d1,f1⟩:=oj I hc q1 h1 s1;obtain⟨ld,St2,rv2,D2,d2,f2⟩:=oj I hc q2 h2 s2;have l1:i<Y.toArray.size:=by have:=(i_.mp hx).1;rw[u_,<-rv1.length];exact this
  have l2:i<ld.toArray.size:=by have:=(i_.mp hy).1;rw[u_,<-rv2.length];exact this
  refine Ta Z D1 D2 hz hi ho d1 d2 l1 l2 fun vx vy h' tk px py LT LE Id KK hT hsz hk=>⟨_,rfl,wpAny_letOwnedTupleGo_zip LT fun BT Cl U=>?_⟩
  obtain⟨wx,e1,r1⟩:=rv1.get hx;obtain⟨wy,e2,r2⟩:=rv2.get hy;have ex:vx=wx:=by
   have:Y[i]? = some vx:=by simpa using px
   rw[e1]at this;exact(E_ this).symm
  have ey:vy=wy:=by
   have:ld[i]? = some vy:=by simpa using py
   rw[e2]at this;exact(E_ this).symm
  subst ex ey;have nT:∀c o,s.heap.get? c=some o->s.heap.objs.size≠c:=fun c o e=>ZV (z_ e);have IO:BT.get? s.heap.objs.size=some { cls:=.type "tuple",data:=.seq #[vx,vy] }:=(U.2 _ (nT _ _ hz)).trans hT;obtain⟨o1,ST,_⟩:=oN s1;obtain⟨o2,ho2,_⟩:=oN s2;refine⟨.ref s.heap.objs.size,upd H s.heap.objs.size (.tup [x,y]),Io (s:=s) (h':=BT) (t':=tk) (ch:=[zp,to,u1,u2]) I (fun c hc=>hf c ?_) (fun c ob hb e=>?_) (y_ _) (QN IO r1 r2),rfl,⟨_,x,y,I.hok.fresh (y_ _),rfl,rfl,fun zs hz=>by rw[Bb I hz q1];exact hx,fun zs hz=>by rw[Bb I hz q2];exact hy⟩,⟨Cl,?_,⟨vx,vy,?_⟩,?_,?_⟩,fun c hc=>?_⟩
  .simp only[e_,p_,or_false]at hc ⊢;rcases hc with rfl|rfl|rfl|rfl <;> simp
  .simp only[e_,p_,or_false,not_or]at hb;exact(U.2 c hb.1).trans (hk c ob hb.1 hb.2.1 hb.2.2.1 hb.2.2.2 e)
  .exact(U.2 _ Z.a1).trans (hk _ _ Z.a1 Z.a8.1 Z.a8.2.1 Z.a8.2.2 hi)
  .exact(U.2 _ Z.a2).trans LE
  .exact oZ (f1 _ _ Id) fun o e=>(U.2 _ Z.a3).trans e
  .exact oZ (f2 _ _ KK) fun o e=>(U.2 _ Z.a4).trans e
  .rw[bX ?_]
   .exact(hf c hc).1
   .simp only[e_,p_,or_false]at hc;rcases hc with rfl|rfl|rfl|rfl|rfl
    .exact(nT _ _ hz).symm
    .exact(nT _ _ hi).symm
    .exact(nT _ _ ho).symm
    .exact(nT _ _ ST).symm
    .exact(nT _ _ ho2).symm
 done:=by
  intro X hP hw hK hc i pz s σ H E I hf st hg;subst hP hw hK;obtain⟨xs,ys,q1,q2,hm⟩:=hg;obtain⟨hz,hi,⟨p,q,ho⟩,s1,s2⟩:=st;obtain⟨Y,St1,rv1,D1,d1,f1⟩:=oj I hc q1 h1 s1;obtain⟨ld,St2,rv2,D2,d2,f2⟩:=oj I hc q2 h2 s2;have l1:=rv1.length;have l2:=rv2.length;refine T9 Z D1 D2 hz hi ho d1 d2 ?_ fun h' tk hk=>⟨rfl,RT (h':=h') (t':=tk) (ch:=[zp,to,u1,u2]) I (fun c hc=>hf c ?_) fun c ob hb e=>?_⟩
  .rw[u_,u_];omega
  .simp only[e_,p_,or_false]at hc ⊢;rcases hc with rfl|rfl|rfl|rfl <;> simp
  .simp only[e_,p_,or_false,not_or]at hb;exact hk c ob hb.1 hb.2.1 hb.2.2.1 hb.2.2.2 e
 self:=fun _ _ _ _ _ st h=>wpAny_pyIter_zip st.1 h
def nF(fa fb:FE):FI:=fun r=>(fa r).bind fun d=>(fb r).bind fun e=>(dw (cZ d)).bind fun ds=>(dw (cZ e)).bind fun es=>.ok (QaU (fun a b=>D.tup [a,b]) ds es)
def Ru{α β γ:Type}(f:α->β->γ):∀(l:List α)(r:List β)(i:Nat),(QaU f l r)[i]? = (match l[i]?,r[i]? with|some a,some b=>some (f a b)|_,_=>none):=fun l r i=>by rw[QcG];cases l[i]? <;> cases r[i]? <;> rfl
def NH{K:W.Frag}{ds es:List D}{G0:GH}{sq1 sq2:Hp->List V->Prop}(h1:∀G H,bO G0 G->bW K G H->∃xs,sq1 H xs/\cR K G xs ds)(h2:∀G H,bO G0 G->bW K G H->∃xs,sq2 H xs/\cR K G xs es):Yields K (yR sq1 sq2) (QaU (fun a b=>D.tup [a,b]) ds es) G0:=by
 refine⟨fun G H i w gk hi=>?_,fun G H i x H' d w gk y e=>?_,fun G H w gk=>?_⟩
 .obtain⟨xs,s1,r1⟩:=h1 G H w gk;obtain⟨ys,s2,r2⟩:=h2 G H w gk;rw[QbP]at hi;have l1:=Paired.length r1;have l2:=Paired.length r2;exact⟨xs,ys,xs[i]'(by omega),ys[i]'(by omega),s1,s2,o_ _,o_ _⟩
 .obtain⟨xs,s1,r1⟩:=h1 G H w gk;obtain⟨ys,s2,r2⟩:=h2 G H w gk;obtain⟨p,v,u,hp,rfl,rfl,hv,hu⟩:=y;rw[Ru]at e;cases e1:ds[i]? with
 |none=>rw[e1]at e;cases e
 |some d1=>cases e2:es[i]? with
  |none=>rw[e1,e2]at e;cases e
  |some d2=>rw[e1,e2]at e;cases e;obtain⟨v',z1,rv⟩:=Paired.get r1 e1;obtain⟨u',z2,ru⟩:=Paired.get r2 e2;have a1:=hv xs s1;have a2:=hu ys s2;rw[z1]at a1;cases a1;rw[z2]at a2;cases a2;exact⟨_,Grow.newF gk hp (.tup (.inl cQ) (.cons rv (.cons ru .nil))),.ref fW⟩
 .obtain⟨xs,s1,r1⟩:=h1 G H w gk;obtain⟨ys,s2,r2⟩:=h2 G H w gk;refine⟨xs,ys,s1,s2,?_⟩;rw[QbP,Paired.length r1,Paired.length r2]
section
variable{e1 e2:Expr}{fa fb:FE}
def OD{pz:List (Addr×Obj)}{σ:L2.St}{H:Hp}{s:h_}{t1 t2:Bool}{a b:Addr}{xs ys:List V}{E:Value->h_->Prop}{Q:Value->h_->Prop}(I:Inv X pz σ H s)(q1:gr X.K t1 a H xs)(q2:gr X.K t2 b H ys)(h:tj s (kZ t1) (kZ t2) a b Q):w_ (B_ X.prog X.w) X.A (call (.type "zip") [.ref a,.ref b]) Q E s:=by obtain⟨z,_,p1⟩:=uQ I q1;obtain⟨U,_,p2⟩:=uQ I q2;exact QdB F.called_zip (by decide) (F.typeCall_zip_2 _ _) (F.newCall_zip_2 _ _) (fun obj=>F.args_object_init_3 obj _ _) F.entry_zip_new (QB t1 t2 a b z.toArray U.toArray) ⟨p1,p2,Om h⟩
def j2{x y:Nat}(h:x≠y):(show Addr from x)≠(show Addr from y):=h
def oQ{x u a:Nat}(h1:x≠u)(h2:x≠a):(show Addr from x)∉[(show Addr from u),(show Addr from a)]:=fun h=>by
 rcases e_.mp h with h|h
 .exact h1 h
 .exact h2 (H_.mp h)
def NJ{a b k:Nat}(la:a<k)(lb:b<k):ZA (show Addr from k+4) (show Addr from k+2) (show Addr from k+3) (show Addr from k) (show Addr from k+1) [(show Addr from k),(show Addr from a)] [(show Addr from k+1),(show Addr from b)]:=⟨j2 (by omega),j2 (by omega),j2 (by omega),j2 (by omega),j2 (by omega),j2 (by omega),j2 (by omega),⟨j2 (by omega),j2 (by omega),j2 (by omega)⟩,⟨oQ (by omega) (by omega),oQ (by omega) (by omega),oQ (by omega) (by omega)⟩,⟨oQ (by omega) (by omega),oQ (by omega) (by omega),oQ (by omega) (by omega)⟩⟩
def L4{c k:Nat}(h:c=k+4\/c=k+2\/c=k+3\/c=k\/c=k+1):k<=c:=by omega
def ML{ta tb:TE}(hg:Gl X "zip")(hm:X.mg "zip" = none)(ha:PE X e1 ta)(hb:PE X e2 tb)(hs:f_ [e1,e2] X.env=(false,eval e1 X.env)::f_ [e2] X.env:=by rfl)(Z:f_ [e2] X.env=(false,eval e2 X.env)::f_ [] X.env:=by rfl)(Y:(backTo pos (f_ [e2] X.env)).any (·.1)=false:=by rfl):PI X (.Tuple elts kk pos2) (.Call (.Name "zip" p) [e1,e2] [] pos) (fun σ H R=>ta σ H fun x H1=>tb σ H1 fun y H2=>∃(t1 t2:Bool)(a b:Addr),x=.ref a/\y=.ref b/\(∃xs,gr X.K t1 a H2 xs)/\(∃ys,gr X.K t2 b H2 ys)/\R (yR (gr X.K t1 a) (gr X.K t2 b)) H2):=by
 intro pz s σ H R I h;refine Call_ (lx I hg hm boot_zip (ZI (bL (fO ha (fO hb iE Z) hs pos pz s σ H (fun vs H2=>match vs with
 |[x,y]=>∃(t1 t2:Bool)(a b:Addr),x=.ref a/\y=.ref b/\(∃xs,gr X.K t1 a H2 xs)/\(∃ys,gr X.K t2 b H2 ys)/\R (yR (gr X.K t1 a) (gr X.K t2 b)) H2
 |_=>False) I h) fun us s1 ⟨vs,H1,I1,r1,q1⟩=>?_) hs Y))
 cases r1 with
|nil=>exact q1.elim
|@cons x u xs us rx rt=>cases rt with
|nil=>exact q1.elim
|@cons y u' xs' us' ry U=>cases U with
|cons _ _=>exact q1.elim
|nil=>
 obtain⟨t1,t2,a,b,rfl,rfl,⟨zs,z1⟩,⟨ws,z2⟩,q⟩:=q1;cases rx;cases ry;have la:=pj I1 z1;have lb:=pj I1 z2;refine OD I1 z1 z2 fun h' hz hi ho o1 o2 kp=>wpAny_pyIter_zip hz ?_;refine⟨_,[s1.heap.objs.size+4,s1.heap.objs.size+2,s1.heap.objs.size+3,s1.heap.objs.size,s1.heap.objs.size+1],_,_,H1,rfl,I1.kept (t':=s1.toks) kp,Rr (t1:=t1) (t2:=t2) a b _ _ _ _ _ (NJ la lb) (G_ la) (G_ (Z6 lb)),⟨hz,hi,⟨_,_,ho⟩,HD o1,HD o2⟩,fun c hc=>?_,q⟩;have z:s1.heap.objs.size<=c:=by simp only[e_,p_,or_false]at hc;exact L4 hc
 exact I1.fpOk z (I1.hok.fresh z)
def Lp(hg:Gl X "zip")(hm:X.mg "zip" = none)(ha:SE X g m e1 fa)(hb:SE X g m e2 fb)(hs:f_ [e1,e2] X.env=(false,eval e1 X.env)::f_ [e2] X.env:=by rfl)(z:f_ [e2] X.env=(false,eval e2 X.env)::f_ [] X.env:=by rfl)(U:(backTo pos (f_ [e2] X.env)).any (·.1)=false:=by rfl):iw X g m (.Tuple elts kk pos2) (.Call (.Name "zip" p) [e1,e2] [] pos) (nF fa fb):=by
 refine PI.imp (ML hg hm ha hb hs z U) fun σ H R ⟨r,G,si,q⟩=>⟨r,G,si,cn (cw q) fun d q v G1 H1 w1 rv=>⟨r,G1,si.grow w1,?_⟩⟩
 refine iR (cw q) w1 fun e q u G2 H2 w2 ru=>?_;obtain⟨ds,ed,q⟩:=dQ (cw q);obtain⟨es,ee,q⟩:=dQ (cw q);have rv2:=rv.mono w2.ge;have one:∀{v:V}{d:D}{ds:List D},RG X.K G2 v d->cZ d=some ds->∃(t:Bool)(a:Addr),v=.ref a/\(∃xs,gr X.K t a H2 xs)/\∀G H,bO G2 G->bW X.K G H->∃xs,gr X.K t a H xs/\cR X.K G xs ds:=by intro v d ds rv ed;cases d with
 |lst ds'=>cases ed;obtain⟨a,xs,rfl,s,rs⟩:=rv.lst w2.ok;refine⟨false,a,rfl,⟨xs,s⟩,fun G H le gk=>?_⟩;obtain⟨b,ys,e,s',r'⟩:=(rv.mono le).lst gk;cases e;exact⟨ys,s',r'⟩
 |tup ds'=>cases ed;obtain⟨a,xs,rfl,s,rs⟩:=rv.tup w2.ok;refine⟨true,a,rfl,⟨xs,s⟩,fun G H le gk=>?_⟩;obtain⟨b,ys,e,s',r'⟩:=(rv.mono le).tup gk;cases e;exact⟨ys,s',r'⟩
 |_=>cases ed
 obtain⟨t1,a,rfl,x1,y1⟩:=one rv2 ed;obtain⟨t2,b,rfl,x2,y2⟩:=one ru ee;exact⟨t1,t2,a,b,rfl,rfl,x1,x2,q _ G2 H2 (w1.trans w2) (NH y1 y2)⟩
end
end DL
namespace DL
open PySem PyProof.Rows L2
variable{X:Cx}{g:GE}{m mb:List Md}{e a b o c:Expr}{f fa fc:FE}{pos pos':Pos}
section
variable{fb:FE}
def IV:∀ds:List D,zbP ds=ds.map bI
|[]=>by unfold zbP;rfl
|d::ds=>by unfold zbP;rw[IV ds];rfl
end
section
variable{fb:FE}
open Classical in
def inT(x c:D):Option D:=match c with
|.tup ds=>if cP 60 x/\cP 60 (.tup ds)then some (.bl (ds.any fun y=>iL y x))else none
|_=>none
def sO(K:W.Frag):R2:=fun x y H Q=>∃(G:GH)(d:D)(ds:List D),bW K G H/\RB K G H x d/\RB K G H y (.tup ds)/\cP 60 d/\cP 60 (.tup ds)/\Q (.bl (ds.any fun z=>iL z d)) H
def Nd(hu:X.A.units+64<Qag):cu X (Y6 .In) (sO X.K):=by
 intro pz s σ H x y v u Q I rx ry h;obtain⟨G,d,ds,gk,r1,r2,s1,s2,q⟩:=h;obtain⟨as,h1⟩:=pc I gk 60 d x v s1 r1 rx;obtain⟨bs,h2⟩:=pc I gk 60 (.tup ds) y u s2 r2 ry;have e:bI (.tup ds)=PyData.tuple (zbP ds):=by rw[bI]
 rw[e]at h2;obtain⟨c1,c2⟩:=AE 60 d s1;obtain⟨k1,k2⟩:=uS (k:=59) (AE 59) ds (iG.mp s2);refine SeqAt.in_tuple_reads h2 h1 k1 c1 ?_ ⟨.bl _,H,I,rfl,?_⟩
 .have:min (QbL (zbP ds)) (bI d).depth<=60:=Y8 (QdK _ _) c2;omega
 .rw[IV,QaD];exact q
def Ng{K:W.Frag}:fH K (sO K) inT:=by
 intro G H v1 v2 d1 d2 d Q gk r1 r2 e q;unfold inT at e;split at e
 .rename_i ds;split at e
  .rename_i hs;cases e;exact⟨G,d1,ds,gk,r1,r2,hs.1,hs.2,q _ G H (Grow.refl gk) (.scl (.bl _))⟩
  .cases e
 .cases e
def K2(hu:X.A.units+64<Qag)(ha:SB X g m a fa)(hb:SB X g m b fb)(hm:Qab .In b=false:=by rfl):SE X g m (.Compare a [.In] [b] pos) (f2 fa fb inT):=lh (Nd hu) Ng ha hb hm
end
end DL
namespace DL
open PySem PySem.Spec PyProof.Rows L2
def kK(m:List Md)(i:Nat)(f fb fc:FE):FS:=fun r=>onE m r (f r) fun v=>match v with
|.tup [v1,v2]=>(match r[i]? with
 |some (some d)=>onE m r (fb r) fun k1=>(match dS d k1 v1 with
  |some d1=>onE m (r.set i (some d1)) (fc (r.set i (some d1))) fun k2=>(match dS d1 k2 v2 with
   |some d2=>.nx ((r.set i (some d1)).set i (some d2))
   |none=>.stuck)
  |none=>.stuck)
 |_=>.stuck)
|_=>.stuck
variable{X:Cx}{g:GE}{m mb:List Md}{e b c:Expr}{f fc:FE}{pos p1 p2 p3 p4 p5:Pos}{ro:Bool}
section
variable{fb:FE}{x:Str}
def K5(i:Nat){kt:Nat}(hc:X.calm=true)(hu:X.A.units+1<Qag)(hm:m[i]? = some .ow)(hN:X.N[i]? = some x)(hv:gA X.env.scope x)(hb:SB X g m b fb)(hcc:SB X g m c fc)(he:SE X g m e f)(hd:(x==("__debug__" : Str))=false:=by decide)(Y:(x==("__classdict__" : Str))=false:=by decide)(ha:∀v,Qax (.Subscript (.Name x p1) b p2) X.env v=(do
   let ov <-Qam [v] (eval (.Name x p1) X.env);let iv <-Qam [v,ov] (eval b X.env)
   Qca p2
   Qam [v,ov,iv] (Qdq ov iv v)
   release [v,ov,iv] []):=by intro _;rfl)(LE:∀v,Qax (.Subscript (.Name x p3) c p4) X.env v=(do
   let ov <-Qam [v] (eval (.Name x p3) X.env);let iv <-Qam [v,ov] (eval c X.env)
   Qca p4
   Qam [v,ov,iv] (Qdq ov iv v)
   release [v,ov,iv] []):=by intro _;rfl)(hs:Qc5 [.Tuple [.Subscript (.Name x p1) b p2,.Subscript (.Name x p3) c p4] kt p5] e pos.line X.env=pure false:=by rfl)(hw:Qc6 [.Tuple [.Subscript (.Name x p1) b p2,.Subscript (.Name x p3) c p4] kt p5] e X.env=pure none:=by rfl)(h1:(Zi [.Tuple [.Subscript (.Name x p1) b p2,.Subscript (.Name x p3) c p4] kt p5] X.env).map (·.2)=[Qax (.Tuple [.Subscript (.Name x p1) b p2,.Subscript (.Name x p3) c p4] kt p5) X.env]:=by rfl)(hn:(Zi [.Subscript (.Name x p1) b p2,.Subscript (.Name x p3) c p4] X.env).length=2:=by rfl)(LT:(Zi [.Subscript (.Name x p1) b p2,.Subscript (.Name x p3) c p4] X.env).findIdx? (·.1)=none:=by rfl)(hs1:(Zi [.Subscript (.Name x p1) b p2,.Subscript (.Name x p3) c p4] X.env).map (·.2)=Qax (.Subscript (.Name x p1) b p2) X.env::(Zi [.Subscript (.Name x p3) c p4] X.env).map (·.2):=by rfl)(KK:(Zi [.Subscript (.Name x p3) c p4] X.env).map (·.2)=Qax (.Subscript (.Name x p3) c p4) X.env::(Zi [] X.env).map (·.2):=by rfl):SS X g ro mb m (.Assign [.Tuple [.Subscript (.Name x p1) b p2,.Subscript (.Name x p3) c p4] kt p5] e pos) (kK m i f fb fc) m:=by
 refine⟨rfl,PS.imp (Gh he (Gg hc (Bo (Am (gP hN hv hd Y) hb (gj.or Bg (A9 hu)) ha) (Bo (Am (gP hN hv hd Y) hcc (gj.or Bg (A9 hu)) LE) Hm KK) hs1) hn LT) hs hw h1) fun D0 σ H ⟨r,G,si,k⟩=>⟨r,G,si,?_⟩⟩;refine cn (gE si rfl k) fun v k1 vv G1 H1 w1 rv=>?_;split at k1
 .rename_i v1 v2;obtain⟨a0,xs,rfl,s0,rs⟩:=rv.tup (si.grow w1).gok;cases rs with
 |@cons y1 _ ys _ rv1 rs=>cases rs with
  |@cons y2 _ ys _ rv2 rs=>cases rs;refine⟨a0,_,rfl,s0,rfl,_,_,rfl,?_⟩;cases er:r[i]? with
   |none=>simp only[er]at k1;exact(show False from k1).elim
   |some oo=>cases oo with
    |none=>simp only[er]at k1;exact(show False from k1).elim
    |some d=>simp only[er]at k1;obtain⟨a,h1,h2,h3⟩:=(si.grow w1).mut hm er;refine⟨_,h1,r,G1,si.grow w1,?_⟩;refine cn (gE (m:=m) (si.grow w1) rfl (cV.gle k1 w1.ge)) fun kk k2 kv G2 H2 w2 rk=>?_;cases es:dS d kk v1 with
     |none=>simp only[es]at k2;exact(show False from k2).elim
     |some d1=>
       simp only[es]at k2;obtain⟨a',BT,Ty,h3'⟩:=((si.grow w1).grow w2).mut hm er;rw[h1]at BT;cases BT;refine AI w2.ok Ty rk (rv1.mono w2.ge) es fun o' ob=>?_;have z:=h3' o' d1 ob;have ld:(r.set i (some d1))[i]? = some (some d1):=by rw[j_];exact(i_.mp er).1
       obtain⟨b',g1,g2,g3⟩:=z.mut hm ld;refine⟨_,_,rfl,_,g1,_,G2,z,?_⟩;refine cn (gE (m:=m) z rfl (cV.gle k2 w2.ge)) fun Tm k3 UU G3 H3 w3 US=>?_;cases U:dS d1 Tm v2 with
      |none=>simp only[U]at k3;exact(show False from k3).elim
      |some d2=>simp only[U]at k3;obtain⟨UT,Z,ST,IO⟩:=(z.grow w3).mut hm ld;rw[g1]at Z;cases Z;exact AI w3.ok ST US ((rv2.mono w2.ge).mono w3.ge) U fun Cl Id=>⟨rfl,k3 σ G3 _ w3.ge (IO Cl d2 Id)⟩
 .exact(show False from k1).elim
end
def tq:Nat:=2^2000
def nU(i j:Int):Prop:=i.natAbs<tq/\j.natAbs<tq
def tD(_i j:Int):Prop:=0<j/\j.natAbs<tq
instance decMulW(i j:Int):Decidable (nU i j):=by unfold nU;infer_instance
instance decDivW(i j:Int):Decidable (tD i j):=by unfold tD;infer_instance
def G9{i:Int}(h:i.natAbs<tq):Qa0 i<=2000:=by
 unfold Qa0;split
 .exact Zf _
 .rename_i z;have h0:i.natAbs≠0:=fun e=>z (by rw[Int.natAbs_eq_zero.mp e];rfl);have:=(Nat.log2_lt h0).mpr h;omega
def nU.ok{i j:Int}(h:nU i j):IntMulOk i j:=by
 have h1:=G9 h.1;have h2:=G9 h.2;unfold IntMulOk;have e:QcI ((Qa0 i:Int)+(Qa0 j:Int))=false:=by
  unfold QcI;have:((bitsLine:Nat):Int)=134217728:=by decide+kernel
  exact decide_eq_false (by omega)
 rw[e];simp
def Ow:cu X (Z_ .Mult) (rI nU fun i j=>.int (i*j)):=pH fun _ _ _ _ _ _ _ hc q=>mul_int q hc.ok
def QM:cu X (Z_ .FloorDiv) (rI tD fun i j=>.int (i/j)):=pH fun i j _ _ _ _ _ hc q=>by
 have h1:(0:Int)<j:=hc.1;have h2:j.natAbs<tq:=hc.2;have h0:j.natAbs≠0:=by omega
 have:=(Nat.log2_lt h0).mpr h2;exact floordiv_int (by omega) (by rw[QbV i (by omega)];exact q) (.inl (PyProof.noPylong_of_log2 (by omega)))
abbrev EF:D->D->Option D:=jx nU fun a b=>.int (a*b)
abbrev Li:D->D->Option D:=jx tD fun a b=>.int (a/b)
variable{a:Expr}{fa:FE}{fl:aL->Res (List D)}
section
variable{o:Expr}{es:List Expr}{fb fo:FE}{p apos cpos:Pos}
def pY(ha:SB X g m a fa)(hb:SB X g m b fb):SE X g m (.BinOp a .Mult b pos) (f2 fa fb EF):=jX Ow (o7 fun _ _=>.int _) ha hb
def HQ(ha:SB X g m a fa)(hb:SB X g m b fb):SE X g m (.BinOp a .FloorDiv b pos) (f2 fa fb Li):=jX QM (o7 fun _ _=>.int _) ha hb
def absD:List D->Option D
|[.int i]=>some (.int (if i<0 then-i else i))
|_=>none
def Ma{K:W.Frag}:lX K (fun xs H Q=>∃i:Int,xs=[.int i]/\Q (.int (if i<0 then-i else i)) H) absD:=by
 intro G H vs ds d Q gk rs e q;unfold absD at e;split at e
 .cases e;cases rs with
 |cons r1 t=>cases t;exact⟨_,by rw[r1.int gk],q _ G H (Grow.refl gk) (.scl (.int _))⟩
 .cases e
def KZ(hg:Gl X "abs")(hm:X.mg "abs" = none)(ha:iy X g m (e::es) fl)(he:f_ (e::es) X.env=(false,eval e X.env)::f_ es X.env:=by rfl)(z:(backTo pos (f_ es X.env)).any (·.1)=false:=by rfl):SE X g m (.Call (.Name "abs" p) (e::es) [] pos) (fC fl absD):=ik Ma (o8 PV hg hm PyProof.Rows.boot_abs ha (by decide) (by decide) he z)
def oU{x:Str}{d:D}(hg:Gl X x)(hk:∃a,X.mg x=some (.ref a)/\KC X.K a d)(hd:(x==("__debug__" : Str))=false:=by decide):SE X g m (.Name x pos) fun _=>.ok d:=by obtain⟨a,hm,k⟩:=hk;exact PE.imp (PP (v:=.ref a) hg hm rfl hd) fun σ H Q ⟨r,G,si,q⟩=>q (.ref a) G H (Grow.refl si.gok) (.kc k)
def EZ{K:W.Frag}{h:Heap}{mg:Str->Option Value}{x:Str}(KX:K.In h)(G:h.Ns K_ mg){a:Addr}{i j:Int}{t u:Tok}{n:Nat}{sl:Array (Option Value)}(z:W.nsIn K K_ x=some (some (.ref a)))(l:K.lookup a=some ⟨.type "tuple",none,.seq #[.int i t,.int j u] n,sl⟩):∃a,mg x=some (.ref a)/\KC K a (.tup [.int i,.int j]):=by refine⟨a,W.mg_of KX G z,.tup (xs:=[.int i,.int j]) (.inr ⟨_,_,_,l,rfl,rfl,?_,.cons ⟨_,rfl⟩ (.cons ⟨_,rfl⟩ .nil)⟩) (.cons (.int _) (.cons (.int _) .nil)) ⟨_,l,rfl,rfl⟩⟩;show 2<=sizeLine;rw[J_];decide
end
def yL:bH->D
|.inl i=>.int i
|.inr x=>.str x
def Oh(k:bH):Scl (kV k) (yL k):=by cases k with
|inl i=>exact .int i
|inr x=>exact .str x
def qd:D->Option (List D)
|.dic kvs=>some (kvs.map fun kv=>yL kv.1)
|_=>none
def EX(a:Addr)(ob:Obj)(ps:List (bH×V)):It:=⟨fun i H=>H a=some (.frz ob (.dK ps))/\i<ps.length,fun i H x H'=>H'=H/\∃kv,ps[i]? = some kv/\x=kV kv.1,fun i H=>H a=some (.frz ob (.dK ps))/\i=ps.length⟩
def MX{P:C_}{w:N_}{k:bH}{u:Value}(h:(ic P w).is k u=true):aS (kV k) u:=by
 rcases keyIs_shape h with⟨i,t,rfl,rfl⟩|⟨x,t,rfl,rfl⟩
 .exact⟨t,rfl⟩
 .exact⟨t,rfl⟩
variable{σ:L2.St}{H:Hp}
section
variable{pz:List (Addr×Obj)}{s:h_}{a:Addr}{ob:Obj}{ps:List (bH×V)}
def A2(I:Inv X pz σ H s)(e:H a=some (.frz ob (.dK ps))){es:Array QdN}{ep:Nat}(hob:ob.data=.dict es ep):∃vs,KV ps vs/\s.heap.DictAt (ic X.prog X.w) a vs ep/\(a==Qar)=false:=by
 obtain⟨h1,z,y,vs,r,o',es',U,h2,c1,c2,c3⟩:=(show du X.prog X.w H s.heap a (.frz ob (.dK ps))from I.hok a _ e)
 rw[h1]at h2;cases h2;rw[hob]at c2;cases c2;exact⟨vs,r,⟨ob,es,h1,c1,hob,c3⟩,y⟩
def OK(I:Inv X pz σ H s)(e:H a=some (.frz ob (.dK ps))):∃(es:Array QdN)(ep:Nat),ob.data=.dict es ep:=by
 obtain⟨h1,z,y,vs,r,o',es',U,h2,c1,c2,c3⟩:=(show du X.prog X.w H s.heap a (.frz ob (.dK ps))from I.hok a _ e)
 rw[h1]at h2;cases h2;exact⟨es',U,c2⟩
end
def RX{P:C_}{w:N_}{K:W.Frag}{tg:Expr}(a it:Addr){ob:Obj}{ps:List (bH×V)}{es:Array QdN}{ep:Nat}(hob:ob.data=.dict es ep):Turn P w K tg (EX a ob ps) [it] it (fun i h=>h.IsKeyIter it a i ps.length ep) where
 mem:=by simp
 obj:=fun i h st b hb=>by
  have e:b=it:=by simpa using hb
  subst e;obtain⟨o,e,c,d⟩:=st;exact⟨o,e,fun v z=>by rw[d]at z;cases z⟩
 keep:=fun i h h' st k=>st.at fun o e=>k it (by simp) o e
 item:=by
  intro X hP hw hK hc i pz s σ H E I hf st hg;subst hP hw hK;obtain⟨he,hi⟩:=hg;obtain⟨vs,r,m,_⟩:=A2 I he hob;have hl:ps.length=vs.length:=Paired.length r;have U:i<vs.length:=by omega
  obtain⟨kv,h1,h2⟩:=DL.Paired.get r (o_ U);obtain⟨f0,f1,f2,f3,f4,f5⟩:=hf it (by simp);rw[hl]at st;refine wpAny_pyNext_dict_item (k:=vs[i].1) (v:=vs[i].2) st m (o_ U) fun key h' Y hit' sb=>?_;have I1:Inv X pz σ H { s with heap:=h' }:=I.turned (t':=s.toks) (fun b o hb e=>(sb.2 b hb).trans e) f0 f1 f3 f4 f5;obtain⟨o,e,c,d⟩:=id hit';exact⟨key,rfl,uD (s:={ s with heap:=h' }) e c d (by decide) ⟨kV kv.1,H,I1,by rw[h2.1];exact MX Y,⟨rfl,kv,h1,rfl⟩,by rw[hl];exact hit',fun b hb=>(hf b hb).1⟩⟩
 done:=by intro X hP hw hK hc i pz s σ H E I hf st hg;subst hP hw hK;obtain⟨he,hi⟩:=hg;obtain⟨vs,r,m,_⟩:=A2 I he hob;have hl:ps.length=vs.length:=Paired.length r;obtain⟨f0,f1,f2,f3,f4,f5⟩:=hf it (by simp);rw[hl]at st;exact wpAny_pyNext_dict_end (I.ok.hd hc) st m (by rw[ZS];omega) fun h' eb=>⟨rfl,I.turned (t':=s.toks) (fun b o hb e=>eb b o hb e) f0 f1 f3 f4 f5⟩
 self:=fun _ _ _ _ _ st h=>wpAny_pyIter_keyiter st h
variable{m' m1:List Md}{tg iter:Expr}{sts:List Stmt}{s1:FS}
section
variable{fb:FE}{p:FQ}{pos':Pos}
def Pi{l:Expr}{tl:TE}(hl:PE X l tl):PI X tg l (fun σ H R=>tl σ H fun x H1=>∃a ob ps,x=.ref a/\H1 a=some (.frz ob (.dK ps))/\R (EX a ob ps) H1):=by
 intro pz s σ H R I h;refine bL (hl pz s σ H _ I h) fun v s1 ⟨x,H1,I1,r1,q1⟩=>?_;obtain⟨a,ob,ps,e,he,q⟩:=q1;subst e;cases r1;obtain⟨es,ep,hob⟩:=OK I1 he;obtain⟨vs,r,mm,hs⟩:=A2 I1 he hob;have hl:ps.length=vs.length:=Paired.length r;refine wpAny_pyIter_dict hs mm ?_;refine⟨s1.heap.objs.size,[s1.heap.objs.size],_,_,H1,rfl,I1.kept (t':=s1.toks) fun b o e=>c_ _ e,RX a _ hob,⟨_,t_ _ rfl,rfl,by rw[hl];rfl⟩,fun b hb=>?_,q⟩;have e:b=s1.heap.objs.size:=by simpa using hb
 subst e;exact I1.fpOk (y_ _) (I1.hok.fresh (y_ _))
def M2{K:W.Frag}{G:GH}{ps:List (bH×V)}{kvs:List (bH×D)}(r:gS K G ps kvs){i:Nat}{kv:bH×V}{d:D}(h:ps[i]? = some kv)(hd:(kvs.map fun kv=>yL kv.1)[i]? = some d):RG K G (kV kv.1) d:=by rw[x_]at hd;cases e:kvs[i]? with
|none=>rw[e]at hd;cases hd
|some q=>rw[e]at hd;cases hd;obtain⟨z,h1,h2⟩:=DL.Paired.get r e;rw[h]at h1;cases h1;rw[h2.1];exact .scl (Oh _)
def RG.dicF{K:W.Frag}{G:GH}{H:Hp}{v:V}{kvs:List (bH×D)}(gk:bW K G H)(h:RG K G v (.dic kvs)):∃a ob ps,v=.ref a/\G a=some (.dic kvs)/\H a=some (.frz ob (.dK ps))/\gS K G ps kvs:=by cases h with
|scl s=>cases s
|ref e=>cases gk _ _ e with
 |dic r s=>exact⟨_,_,_,rfl,e,r,s⟩
|kc k=>cases k
def NE{K:W.Frag}{a:Addr}{ob:Obj}{ps:List (bH×V)}{kvs:List (bH×D)}{G0:GH}{H0:Hp}(he:H0 a=some (.frz ob (.dK ps)))(r:gS K G0 ps kvs):YieldsC K (EX a ob ps) (kvs.map fun kv=>yL kv.1) G0 H0:=by have hl:ps.length=kvs.length:=Paired.length r;refine⟨fun G H i w hi=>⟨w.he _ _ he,by rw[q_]at hi;omega⟩,fun G H i x H' d w y e=>?_,fun G H w=>⟨w.he _ _ he,by rw[q_];omega⟩⟩;obtain⟨rfl,kv,h1,rfl⟩:=y;exact⟨G,Grow.refl w.ok,M2 (gS.mono r w.ge) h1 e⟩
def OT(h:SE X g m e f):iu X g m tg e (bS qd f):=by
 refine PI.imp (Pi h) fun σ H R ⟨r,G,si,q⟩=>⟨r,G,si,cn (cw q) fun d q v G' H' w rv=>?_⟩
 obtain⟨ds,e,q⟩:=dQ q;cases d with
|dic kvs=>cases e;obtain⟨a,ob,ps,rfl,_,he,rs⟩:=RG.dicF w.ok rv;exact⟨a,ob,ps,rfl,he,q _ G' H' w (NE he rs)⟩
|_=>cases e
def jF:D->D->Option D
|.lst ds,.int k=>if-(2^62)<=k/\k<2^62/\ds.length*k.toNat<=sizeLine then some (.lst ((d_ k.toNat ds).flatten))else none
|_,_=>none
def zU{K:W.Frag}{G:GH}{xs:List V}{ds:List D}(r:cR K G xs ds):∀n:Nat,cR K G (d_ n xs).flatten (d_ n ds).flatten
|0=>.nil
|n+1=>by rw[ZN,ZN,Qap,Qap];exact DL.Paired.app r (zU r n)
def Ly(ha:SO X g m a fa)(hb:SB X g m b fb):SO X g m (.BinOp a .Mult b pos) (f2 fa fb jF):=by
 refine PE.imp (Fs MA ha hb) fun σ H Q ⟨r,G,si,q⟩=>⟨r,G,si,cn (cw q) fun d1 q1 p1 G1 H1 w1 z o1=>⟨r,G1,si.grow w1,iR (cw q1) w1 fun d2 q2 v2 G2 H2 w2 r2=>?_⟩⟩
 obtain⟨d,e,q3⟩:=dQ q2;have o2:=o1.mono w2;unfold jF at e;split at e
 .split at e
  .rename_i ds k hk;cases e;cases o2.ob with
  |@lst xs _ hx rs=>have hl:=Paired.length rs;refine⟨p1,k,xs,rfl,r2.int w2.ok,hx,by omega,by omega,by rw[hl];exact hk.2.2,fun p hp=>?_⟩;have w3:=Grow.new w2.ok hp (.lst (d_ k.toNat xs).flatten);refine q3 p G2 _ ((w1.trans w2).trans w3) ?_ ⟨w2.ok.isN hp,.lst cQ (zU rs _)⟩;cases e:H p with
   |none=>rfl
   |some o=>rw[(w1.trans w2).he _ _ e]at hp;cases hp
  .cases e
 .cases e
end
section
open PySem.AutoSeq1 (wpAny_loadPart')
def Tt:seqRepeat? (.type "tuple")=pure (some (.builtin "tuple.__mul__")):=by kernel_rfl
def Uh:fillsNumberSlot (.type "tuple") "mul" = pure false:=by kernel_rfl
def Sw(a:Int)(t:Tok)(l:Addr)(items:Array Value)(n:Nat)(z:Option Addr)(sl:Array (Option Value)):Meets (QaT.«int.__rmul__» ⟨[.int a t,.ref l],[]⟩) (fun _ R s=>s.heap.get? l=some { cls:=.type "tuple",dict:=z,data:=.seq items n,slots:=sl }/\R (.ok (.ret .notImplemented)) s):=
 .of_wp fun prog w A R s h=>by
  obtain⟨hp,g,d,tk,os⟩:=s;obtain⟨hl,h⟩:=h;have hT:QbB ⟨hp,g,d,tk,os⟩ (.ref l) "tuple" := ⟨_,hl,rfl⟩
  have U:=PySem.F.sub_int_tuple
  wp_walk using ZD hl,Qao hT
  exact⟨_,rfl,h⟩
def Ss(l:Addr)(items:Array Value)(n:Nat)(z:Option Addr)(sl:Array (Option Value))(u:Tok):Meets (QaT.«tuple.__mul__» ⟨[.ref l,.int 1 u],[]⟩) (fun _ R s=>s.heap.get? l=some { cls:=.type "tuple",dict:=z,data:=.seq items n,slots:=sl }/\R (.ok (.ret (.ref l))) s):=
 .of_wp fun prog w A R s h=>by
  obtain⟨hp,g,d,tk,os⟩:=s;obtain⟨hl,h⟩:=h;have hT:QbB ⟨hp,g,d,tk,os⟩ (.ref l) "tuple" := ⟨_,hl,rfl⟩
  wp_walk using ZD hl,Qao hT
  exact⟨_,rfl,h⟩
def RM(l:Addr)(items:Array Value)(n:Nat)(z:Option Addr)(sl:Array (Option Value))(k:Int)(u:Tok)(h1:¬ (decide (k < -2^63) || decide (k>=2^63))=true)(h2:¬ (items.isEmpty || k==1)=true)(h3:¬ (decide (k<=0) || items.isEmpty)=true)(h4:¬ ((items.size:Int)*k>(2^63-1)/8))(h5:¬ QaR ((items.size:Int)*k)=true)(h6:(Qbw (fun x1 x2=>x1++x2) #[] (d_ k.toNat items)).size<=sizeLine):Meets (QaT.«tuple.__mul__» ⟨[.ref l,.int k u],[]⟩) (fun _ R s=>s.heap.get? l=some { cls:=.type "tuple",dict:=z,data:=.seq items n,slots:=sl } /\R (.ok (.ret (.ref s.heap.objs.size))) { s with heap:=s.heap.push { cls:=.type "tuple",data:=.seq (Qbw (fun x1 x2=>x1++x2) #[] (d_ k.toNat items)) } }):=
 .of_wp fun prog w A R s h=>by
  obtain⟨hp,g,d,tk,os⟩:=s;obtain⟨hl,h⟩:=h;have hT:QbB ⟨hp,g,d,tk,os⟩ (.ref l) "tuple" := ⟨_,hl,rfl⟩
  wp_walk using ZD hl,Qao hT
  rw[if_neg h1]
  wp_walk using ZD hl,Qao hT
  rw[if_neg h4];show w_ _ _ (if QaR ((items.size:Int)*k)=true then _ else _) _ _ _;rw[if_neg h5];show w_ _ _ (Zg (Qbw (fun x1 x2=>x1++x2) #[] (d_ k.toNat items)) >>= fun v=>ret v) _ _ _;unfold Zg;exact a_ (Zk (n_ ⟨_,rfl,h⟩) h6)
def FV(K:W.Frag):R2:=fun x y H Q=>∃l k xs,x=.ref l/\y=.int k/\dy K H l xs/\1<=k/\k<2^62/\1<=xs.length/\xs.length*k.toNat<=sizeLine/\(k=1->Q (.ref l) H)/\∀p,H p=none->Q (.ref p) (upd H p (.tup (d_ k.toNat xs).flatten))
def kj:D->D->Option D
|.tup ds,.int k=>if 1<=k/\k<2^62/\1<=ds.length/\ds.length*k.toNat<=sizeLine then some (.tup ((d_ k.toNat ds).flatten))else none
|_,_=>none
section
variable{X:Cx}{g:GE}{m:List Md}{a b:Expr}{fa fb:FE}{pos:Pos}
def PD:cu X (Z_ .Mult) (FV X.K):=by
 intro pz s σ H x y v u Q I rx ry h;obtain⟨l,k,xs,rfl,rfl,hH,h1,h2,hx,hz,q1,q2⟩:=h;cases rx;obtain⟨t,rfl⟩:=ry;obtain⟨its,rv,⟨⟨c,Z,dt,sl⟩,ho,hc,n,hd⟩,_⟩:=I.tuple hH;replace hc:c=.type "tuple" := hc;replace hd:dt=.seq its.toArray n:=hd;subst hc hd;have hl:=rv.length;have hT:s.TypeIs (.ref l) "tuple" := ⟨_,ho,rfl⟩
 refine Qb8 (T := "tuple") (U := "int") (by decide) hT (fun s'=>Qcx s' k t) Uh F.fills_int_mul F.slot_int_rmul Tt F.slot_int_index.lookup
  (QaB F.slot_int_rmul (Qcx s k t) F.entry_int_rmul (F.args_int_rmul_2 _ _) (Sw k t l its.toArray n Z sl) ⟨ho,rfl,hT,?_⟩)
 by_cases hk:k=1
 .subst hk;exact QaB F.slot_tuple_mul hT F.entry_tuple_mul (F.args_tuple_mul_2 _ _) (Ss l its.toArray n Z sl t) ⟨ho,.ref l,H,I,rfl,q1 rfl⟩
 .have hsz:its.toArray.size=xs.length:=by rw[u_];exact hl.symm
  have hne:its.toArray.isEmpty=false:=by cases its with
  |nil=>have z:xs.length=0:=hl;rw[z]at hx;exact absurd hx (by decide)
  |cons _ _=>rfl
  have ld:Qbw (fun x1 x2=>x1++x2) #[] (d_ k.toNat its.toArray)=(d_ k.toNat its).flatten.toArray:=by have:=Bz its k.toNat [];rw[Qa7]at this;exact this
  have Y:(its.toArray.size:Int)*k=((xs.length*k.toNat:Nat):Int):=by rw[hsz,Qd7,Qc4 (by omega)]
  have hS:(sizeLine:Nat)<=(2^63-1)/8:=by decide
  refine QaB F.slot_tuple_mul hT F.entry_tuple_mul (F.args_tuple_mul_2 _ _) (RM l its.toArray n Z sl k t ?_ ?_ ?_ ?_ ?_ ?_) ⟨ho,?_⟩
  .rw[decide_eq_false (by omega),decide_eq_false (by omega)];exact k_
  .rw[hne,Qc9];simpa using hk
  .rw[hne,decide_eq_false (by omega)];exact k_
  .rw[Y];omega
  .rw[Y];unfold QaR;rw[decide_eq_false (by omega)];exact k_
  .rw[ld,u_,A5,Qdx,<-hl];exact hz
  .rw[ld];have hf:H s.heap.objs.size=none:=I.hok.fresh (y_ _);refine⟨.ref s.heap.objs.size,_,I.laid (t':=s.toks) (fun b u e=>c_ _ e) (y_ _) (o:=.tup (d_ k.toNat xs).flatten) ?_,rfl,q2 _ hf⟩;exact⟨by rw[A5,Qdx];exact hz,_,rv.rep k.toNat,⟨_,t_ _ rfl,rfl,_,rfl⟩,_,t_ _ rfl,rfl⟩
def Pt{K:W.Frag}:fH K (FV K) kj:=by
 intro G H v1 v2 d1 d2 d Q gk r1 r2 e q;unfold kj at e;split at e
 .rename_i ds k;split at e
  .rename_i hl;cases e;rcases r1 with r1|⟨a',_,oo⟩
   .obtain⟨a,xs,rfl,s1,t1⟩:=r1.tup gk;have l1:=Paired.length t1;refine⟨a,k,xs,rfl,r2.int gk,s1,hl.1,hl.2.1,by omega,by rw[l1];exact hl.2.2.2,fun hk=>?_,fun p hp=>q _ _ _ (Grow.newF gk hp (.tup (.inl cQ) (zU t1 k.toNat))) (.ref fW)⟩;subst hk;refine q _ G H (Grow.refl gk) ?_;rw[show(d_ (Int.toNat 1) ds).flatten=ds by simp];exact r1
   .cases oo.ob
  .cases e
 .cases e
def uM(ha:SB X g m a fa)(hb:SB X g m b fb):SE X g m (.BinOp a .Mult b pos) (f2 fa fb kj):=jX PD Pt ha hb
end
end
def eS(g:GE)(H:Hp)(fp:List Addr)(i:Nat)(p:Addr):GE:=⟨g.gh,fun b=>if b∈fp then H b else g.h0 b,fun j=>if j=i then some (some (V.ref p),none)else g.hd j⟩
def Im{g:GE}{H H':Hp}{fp:List Addr}{i:Nat}{p:Addr}(h:∀b∈fp,H' b=H b):eS g H' fp i p=eS g H fp i p:=by
 unfold eS;congr 1;funext b;by_cases hb:b∈fp
 .rw[if_pos hb,if_pos hb,h b hb]
 .rw[if_neg hb,if_neg hb]
def gi(K:W.Frag)(G:GH)(H:Hp)(b:Addr)(ds:List D):Prop:=∃xs,H b=some (.lst xs)/\cR K G xs ds
structure LRw(K:W.Frag)(G:GH)(H:Hp)(p:Addr)(as:List Addr)(w:List (List D)):Prop where
 out:H p=some (.lst (as.map V.ref))
 nd:(p::as).Nodup
 un:∀b∈p::as,G b=none
 rw:Paired (gi K G H) as w
def gi.mono{K:W.Frag}{G G':GH}{H H':Hp}{b:Addr}{ds:List D}(h:gi K G H b ds)(ge:bO G G')(he:H' b=H b):gi K G' H' b ds:=by obtain⟨xs,h1,h2⟩:=h;exact⟨xs,by rw[he];exact h1,h2.mono ge⟩
def vL{α β:Type}{F F':α->β->Prop}{l:List α}{r:List β}(h:Paired F l r)(f:∀a∈l,∀b,F a b->F' a b):Paired F' l r:=by induction h with
|nil=>exact .nil
|cons h _ ih=>exact .cons (f _ r_ _ h) (ih fun a ha=>f a (m_ _ ha))
def LRw.isS{K:W.Frag}{G:GH}{H:Hp}{p:Addr}{as:List Addr}{w:List (List D)}(h:LRw K G H p as w){b:Addr}(hb:b∈p::as):H b≠none:=by
 rcases e_.mp hb with rfl|hb
 .rw[h.out];simp
 .have:∀{as:List Addr}{w:List (List D)},Paired (gi K G H) as w->b∈as->H b≠none:=fun{as w} q hb=>by induction q with
  |nil=>cases hb
  |cons r _ ih=>
    rcases e_.mp hb with rfl|hb
    .obtain⟨xs,e,_⟩:=r;rw[e];simp
    .exact ih hb
  exact this h.rw hb
def LRw.mono{K:W.Frag}{G G':GH}{H H':Hp}{p:Addr}{as:List Addr}{w:List (List D)}(h:LRw K G H p as w)(ge:bO G G')(he:∀b∈p::as,H' b=H b)(un:∀b∈p::as,G' b=none):LRw K G' H' p as w:=⟨by rw[he p r_];exact h.out,h.nd,un,vL h.rw fun b hb ds r=>r.mono ge (he b (m_ _ hb))⟩
def jR(X:Cx)(g:GE)(i:Nat)(m:List Md)(r:aL)(w:List (List D))(G:GH)(st:L2.St)(H:Hp):Prop:=∃p as,LRw X.K G H p as w/\(∀b∈p::as,g.h0 b=none)/\SI X (eS g H (p::as) i p) m r G st H/\m[i]? = some .bw
variable{i:Nat}{r r':aL}{w:List (List D)}{G G':GH}{σ':L2.St}{H':Hp}
section
def Jr{p:Addr}{as:List Addr}(R:LRw X.K G H p as w)(h0:∀b∈p::as,g.h0 b=none)(si:SI X (eS g H (p::as) i p) m r G σ H)(le:bO G G')(si':SI X (eS g H (p::as) i p) m' r' G' σ' H')(hm:m'[i]? = some .bw):jR X g i m' r' w G' σ' H':=by
 have he:∀b∈p::as,H' b=H b:=fun b hb=>by have hs:=R.isS hb;cases e:H b with
 |none=>exact absurd e hs
 |some o=>
   have:(eS g H (p::as) i p).h0 b=some o:=by show(if b∈p::as then H b else g.h0 b)=_;rw[if_pos hb];exact e
   rw[si'.old b o this]
 have un:∀b∈p::as,G' b=none:=fun b hb=>by
  have h:(eS g H (p::as) i p).h0 b≠none:=by show(if b∈p::as then H b else g.h0 b)≠_;rw[if_pos hb];exact R.isS hb
  have e1:=si'.gf b h;have e2:=si.gf b h;rw[e1,<-e2];exact R.un b hb
 exact⟨p,as,R.mono le he un,h0,by rw[Im he];exact si',hm⟩
abbrev lR:=aL->List (List D)->Option (aL×List (List D))
def UF(X:Cx)(g:GE)(i:Nat)(m m':List Md)(f:lR):TS:=fun D σ H=>∃r w G,jR X g i m r w G σ H/\∃r' w',f r w=some (r',w')/\∀σ' G' H',bO G G'->jR X g i m' r' w' G' σ' H'->D.nx σ' H'
def yP(X:Cx)(g:GE)(i:Nat)(m:List Md)(st:Stmt)(f:lR)(m':List Md):Prop:=PS X st (UF X g i m m' f)
variable{st:Stmt}{f1 f2:lR}
def jP(f:FS):lR:=fun r w=>match f r with
|.nx r'=>some (r',w)
|_=>none
def GU{K:W.Frag}{H:Hp}:∀{as:List Addr}{w:List (List D)}{G:GH},bW K G H->Paired (gi K G H) as w->as.Nodup->(∀b∈as,G b=none)->∃G',bO G G'/\(∀b,b∉as->G' b=G b)/\bW K G' H/\Paired (fun b ds=>G' b=some (.lst ds)) as w:=by
 intro as
 induction as with
|nil=>intro w G gk h _ _;cases h;exact⟨G,bO.refl G,fun _ _=>rfl,gk,.nil⟩
|cons b as ih=>intro w G gk h nd un;cases h with
 |@cons _ ds _ w r t=>
   rw[Zd]at nd;have hb:=un b r_;obtain⟨xs,e,rs⟩:=r;have g1:bW K (gset G b (.lst ds)) H:=gk.gset hb (.lst (.inl e) rs);obtain⟨G',l,o,g,q⟩:=ih g1 (vL t fun c hc ds r=>r.mono (ii hb) rfl) nd.2 fun c hc=>by rw[ib (by rintro rfl;exact nd.1 hc)];exact un c (m_ _ hc)
   refine⟨G',bO.trans (ii hb) l,fun c hc=>?_,g,.cons (l _ _ fW) q⟩;rw[o c fun z=>hc (m_ _ z),ib (by rintro rfl;exact hc r_)]
def RA{G:GH}{as:List Addr}{w:List (List D)}{b:Addr}(hb:b∈as)(q:Paired (fun b ds=>G b=some (.lst ds)) as w):∃ds,G b=some (.lst ds):=by induction q with
|nil=>cases hb
|cons h _ ih=>
  rcases e_.mp hb with rfl|hb
  .exact⟨_,h⟩
  .exact ih hb
def QW{fp:List Addr}{p:Addr}{d0:D}(si:SI X (eS g H fp i p) m r G σ H)(hm:m[i]? = some .bw)(h0:∀b∈fp,g.h0 b=none)(hS:∀b∈fp,H b≠none)(hb:∀j,j≠i->m[j]?≠some .bw)(le:bO G G')(g2:bW X.K G' H)(out:∀b,b∉fp->G' b=G b)(hd:G' p=some d0):SI X g (m.set i .sh) (r.set i (some d0)) G' σ H:=by
 have Y:i<m.length:=(i_.mp hm).1;have Cl:σ[i]? = some (some (V.ref p)):=(si.lk i (some (V.ref p),none) (by show(if i=i then _ else _)=_;rw[if_pos rfl]) hm).1;have ld:∀b,b∉fp->(eS g H (fp) i p).h0 b=g.h0 b:=fun b hb=>by show(if b∈fp then H b else g.h0 b)=_;rw[if_neg hb]
 have Id:∀b,b∈fp->(eS g H (fp) i p).h0 b≠none:=fun b hb=>by show(if b∈fp then H b else g.h0 b)≠_;rw[if_pos hb];exact hS b hb
 have BT:∀b,g.h0 b≠none->b∉fp:=fun b h z=>h (h0 b z);have Z:∀{j x},i≠j->(m.set i .sh)[j]? = some x->m[j]? = some x:=fun U h=>by rw[b_ U]at h;exact h
 refine⟨g2,fun a o e=>?_,fun a d e=>le a d (si.ge a d e),fun a h=>?_,by simpa using si.lm,by simpa using si.lr,fun j d h1 h2=>?_,fun j d h1 h2=>?_,fun j d h1 h2=>?_,fun j k a d e hjk h1 h2 m1 m2 z1 z2=>?_,fun j o hj hm'=>?_⟩
 .exact si.old a o (by rw[ld a (BT a (by rw[e];simp))];exact e)
 .have hn:=BT a h;rw[out a hn];exact si.gf a (by rw[ld a hn];exact h)
 .by_cases U:i=j
  .subst U;rw[j_ (by rw[si.lr,<-si.lm];exact Y)]at h1;cases h1;exact⟨_,Cl,.ref hd⟩
  .rw[b_ U]at h1;obtain⟨v,y1,y2⟩:=si.sh j d h1 (Z U h2);exact⟨v,y1,y2.mono le⟩
 .by_cases U:i=j
  .subst U;rw[j_ Y]at h2;cases h2
  .rw[b_ U]at h1;obtain⟨a,y1,y2,y3⟩:=si.ow j d h1 (Z U h2);have hn:a∉fp:=fun z=>Id a z y3;exact⟨a,y1,⟨by rw[out a hn];exact y2.un,y2.ob.mono le fun _ z=>z⟩,by rw[<-ld a hn];exact y3⟩
 .by_cases U:i=j
  .subst U;rw[j_ Y]at h2;cases h2
  .exact absurd (Z U h2) (hb j (ZP U))
 .have U:i≠j:=by rintro rfl;rw[j_ Y]at m1;cases m1
  have hik:i≠k:=by rintro rfl;rw[j_ Y]at m2;cases m2
  rw[b_ U]at h1;rw[b_ hik]at h2;exact si.dis j k a d e hjk h1 h2 (Z U m1) (Z hik m2) z1 z2
 .by_cases U:i=j
  .subst U;rw[j_ Y]at hm';cases hm'
  .exact absurd (Z U hm') (hb j (ZP U))
def jR.frz(s:jR X g i m r w G σ H)(hb:∀j,j≠i->m[j]?≠some .bw):∃G',bO G G'/\(∀b d,G b=none->G' b=some d->∃ds,d=.lst ds)/\SI X g (m.set i .sh) (r.set i (some (.lst (w.map D.lst)))) G' σ H:=by
 obtain⟨p,as,R,h0,si,hm⟩:=s;have nd:=Zd.mp R.nd;obtain⟨G1,l1,o1,g1,q1⟩:=GU si.gok R.rw nd.2 fun b hb=>R.un b (m_ _ hb);have U:G1 p=none:=by rw[o1 p nd.1];exact R.un p r_
 have rs:cR X.K G1 (as.map V.ref) (w.map D.lst):=by
  have:∀{as:List Addr}{w:List (List D)},Paired (fun b ds=>G1 b=some (.lst ds)) as w->cR X.K G1 (as.map V.ref) (w.map D.lst):=fun{as w} q=>by induction q with
  |nil=>exact .nil
  |cons h _ ih=>exact .cons (.ref h) ih
  exact this q1
 have g2:bW X.K (gset G1 p (.lst (w.map D.lst))) H:=g1.gset U (.lst (.inl R.out) rs);have le:bO G (gset G1 p (.lst (w.map D.lst))):=bO.trans l1 (ii U);have out:∀b,b∉p::as->gset G1 p (.lst (w.map D.lst)) b=G b:=fun b hb=>by rw[ib (by rintro rfl;exact hb r_),o1 b fun z=>hb (m_ _ z)]
 refine⟨_,le,fun b d hn e=>?_,QW si hm h0 (fun b hb=>R.isS hb) hb le g2 out fW⟩;by_cases Y:b=p
 .subst Y;rw[fW]at e;cases e;exact⟨_,rfl⟩
 .rw[ib Y]at e;by_cases Z:b∈as
  .obtain⟨ds,e1⟩:=RA Z q1;rw[e1]at e;cases e;exact⟨_,rfl⟩
  .rw[o1 b Z,hn]at e;cases e
def yO(X:Cx)(g:GE)(ro:Bool)(mb:List Md)(i:Nat)(m:List Md)(sts:List Stmt)(F:aL->List (List D)->Out)(m':List Md):Prop:=m'.length=m.length/\dq X sts (fun D σ H=>∃r w G,jR X g i m r w G σ H/\cV X g ro m' mb G D (F r w))
def zF(i:Nat)(s:FS):aL->List (List D)->Out:=fun r w=>s (r.set i (some (.lst (w.map D.lst))))
def HV(h:fU X g ro mb (m.set i .sh) sts s1 m')(hb:∀j,j≠i->m[j]?≠some .bw):yO X g ro mb i m sts (zF i s1) m':=⟨by simpa using h.1,dq.imp h.2 fun D σ H ⟨r,w,G,s,q⟩=>by obtain⟨G',le,_,si⟩:=s.frz hb;exact⟨_,G',si,cV.gle q le⟩⟩
def tJ(f1:lR)(F:aL->List (List D)->Out):aL->List (List D)->Out:=fun r w=>match f1 r w with
|some p=>F p.1 p.2
|none=>.stuck
def mI{F:aL->List (List D)->Out}(hl:m1.length=m.length)(h1:yP X g i m st f1 m1)(h2:yO X g ro mb i m1 sts F m'):yO X g ro mb i m (st::sts) (tJ f1 F) m':=by refine⟨h2.1.trans hl,dq.imp (o9 h1 h2.2) fun D σ H ⟨r,w,G,si,q⟩=>⟨r,w,G,si,?_⟩⟩;unfold tJ at q;cases e:f1 r w with
|none=>rw[e]at q;exact q.elim
|some z=>rw[e]at q;exact⟨z.1,z.2,rfl,fun σ' G' H' le si'=>⟨z.1,z.2,G',si',cV.gle q le⟩⟩
def m9(X:Cx)(g:GE)(i:Nat)(m m1:List Md)(f:aL->Option (aL×List (List D))):TS:=fun D σ H=>∃r G,SI X g m r G σ H/\∃r' w',f r=some (r',w')/\∀σ' G' H',bO G G'->jR X g i m1 r' w' G' σ' H'->D.nx σ' H'
def uB(f:aL->Option (aL×List (List D)))(F:aL->List (List D)->Out):FS:=fun r=>match f r with
|some p=>F p.1 p.2
|none=>.stuck
def Gu{F:aL->List (List D)->Out}{f:aL->Option (aL×List (List D))}(hl:m1.length=m.length)(h1:PS X st (m9 X g i m m1 f))(h2:yO X g ro mb i m1 sts F m'):fU X g ro mb m (st::sts) (uB f F) m':=by refine⟨h2.1.trans hl,dq.imp (o9 h1 h2.2) fun D σ H ⟨r,G,si,q⟩=>⟨r,G,si,?_⟩⟩;unfold uB at q;cases e:f r with
|none=>rw[e]at q;exact q.elim
|some z=>rw[e]at q;exact⟨z.1,z.2,rfl,fun σ' G' H' le si'=>⟨z.1,z.2,G',si',cV.gle q le⟩⟩
end
def RO(K:W.Frag)(H2:Hp)(p:Addr)(G:GH)(H:Hp)(ws:List V)(ds:List D):Prop:=Paired (fun v d=>∃b,v=V.ref b/\H2 b=none/\b≠p/\Own K G H b d) ws ds/\ws.Nodup
section
variable{K:W.Frag}{H2:Hp}{p:Addr}{ws:List V}{ds:List D}
def RO.grow(h:RO K H2 p G H ws ds)(w:Grow K G H G' H'):RO K H2 p G' H' ws ds:=⟨Paired.mono (fun v d ⟨b,e,h1,h2,h3⟩=>⟨b,e,h1,h2,h3.mono w⟩) h.1,h.2⟩
def RO.upd{o:HO}(h:RO K H2 p G H ws ds):RO K H2 p G (L2.upd H p o) ws ds:=⟨Paired.mono (fun v d ⟨b,e,h1,h2,h3⟩=>⟨b,e,h1,h2,h3.un,h3.ob.mono (fun _ _ z=>z) fun _ z=>by rw[bX h2];exact z⟩) h.1,h.2⟩
def RO.add(h:RO K H2 p G H ws ds){a:Addr}{d:D}(w:Grow K G H G' H')(hn:H a=none)(h2:H2 a=none)(hp:a≠p)(ho:Own K G' H' a d):RO K H2 p G' H' (ws++[V.ref a]) (ds++[d]):=by
 refine⟨Paired.snoc (h.grow w).1 ⟨a,rfl,h2,hp,ho⟩,?_⟩;rw[List.nodup_append];refine⟨h.2,by simp,?_⟩;intro x hx y hy e;rw[List.mem_singleton]at hy;subst hy;subst e;have:∀{ws:List V}{ds:List D},Paired (fun v d=>∃b,v=V.ref b/\H2 b=none/\b≠p/\Own K G H b d) ws ds->V.ref a∈ws->False:=fun{ws ds} q hx=>by induction q with
 |nil=>cases hx
 |cons r _ ih=>
   rcases e_.mp hx with e|hx
   .obtain⟨b,e1,_,_,h3⟩:=r;rw[<-e]at e1;cases e1;exact h3.ob.isS hn
   .exact ih hx
 exact this h.1 hx
end
def j0:List D->Option (List (List D))
|[]=>some []
|.lst ds::r=>(j0 r).map (ds::·)
|_=>none
def Rj{vs:List D}{w:List (List D)}(h:j0 vs=some w):vs=w.map D.lst:=by induction vs generalizing w with
|nil=>cases h;rfl
|cons v vs ih=>cases v with
 |lst ds=>have h':(j0 vs).map (ds::·)=some w:=h;cases e:j0 vs with
  |none=>rw[e]at h';cases h'
  |some w'=>rw[e]at h';cases h';rw[ih e];rfl
 |_=>cases h
def R9(w:List (List D)):j0 (w.map D.lst)=some w:=by induction w with
|nil=>rfl
|cons a w ih=>show(j0 (w.map D.lst)).map (a::·)=_;rw[ih];rfl
def Pv{K:W.Frag}{H2:Hp}{p:Addr}{G:GH}{H:Hp}{w:List (List D)}{ws:List V}(h:Paired (fun v d=>∃b,v=V.ref b/\H2 b=none/\b≠p/\Own K G H b d) ws (w.map D.lst)):∃as,ws=as.map V.ref/\Paired (gi K G H) as w/\∀b∈as,H2 b=none/\b≠p/\G b=none:=by induction w generalizing ws with
|nil=>cases h;exact⟨[],rfl,.nil,fun _ z=>nomatch z⟩
|cons ds w ih=>cases h with
 |cons r t=>
   obtain⟨b,rfl,h1,h2,h3⟩:=r;obtain⟨as,rfl,q1,q2⟩:=ih t;refine⟨b::as,rfl,.cons ?_ q1,fun c hc=>?_⟩
   .cases h3.ob with
   |lst e rs=>exact⟨_,e,rs⟩
   .rcases e_.mp hc with rfl|hc
    .exact⟨h1,h2,h3.un⟩
    .exact q2 c hc
def NN{K:W.Frag}{H2:Hp}{p:Addr}{G:GH}{H:Hp}{w:List (List D)}{ws:List V}(h:RO K H2 p G H ws (w.map D.lst))(hp:H p=some (.lst ws))(hg:G p=none)(hn:H2 p=none):∃as,LRw K G H p as w/\∀b∈p::as,H2 b=none:=by
 obtain⟨as,rfl,q1,q2⟩:=Pv h.1;refine⟨as,⟨hp,List.nodup_cons.mpr ⟨fun z=>(q2 p z).2.1 rfl,List.Pairwise.of_map V.ref (fun a b h z=>h (by rw[z])) h.2⟩,fun b hb=>?_,q1⟩,fun b hb=>?_⟩
 .rcases e_.mp hb with rfl|hb
  .exact hg
  .exact(q2 b hb).2.2
 .rcases e_.mp hb with rfl|hb
  .exact hn
  .exact(q2 b hb).1
def lU(i:Nat)(f:FE):aL->Option (aL×List (List D)):=fun r=>match f r with
|.ok (.lst vs)=>(j0 vs).map fun w=>(r.set i none,w)
|_=>none
def QO{α β:Type}{F F':α->β->Prop}{l:List α}{w:List β}(h:Paired F l w){j:Nat}{a:α}{y:β}(nd:l.Nodup)(ha:l[j]? = some a)(hy:F' a y)(ho:∀b x,b≠a->F b x->F' b x):Paired F' l (w.set j y):=by induction h generalizing j with
|nil=>cases ha
|@cons b x l w r t ih=>rw[Zd]at nd;cases j with
 |zero=>cases ha;exact .cons hy (vL t fun c hc x q=>ho c x (by rintro rfl;exact nd.1 hc) q)
 |succ j=>
   have z:l[j]? = some a:=by simpa using ha
   refine .cons (ho b x ?_ r) (ih nd.2 z)
   rintro rfl
   exact nd.1 (Z0 z)
def lg{m:List Md}{i:Nat}(h:((g_ m.length).all fun j=>j==i || decide (m[j]?≠some Md.bw))=true):∀j,j≠i->m[j]?≠some .bw:=fun j hj e=>by have U:j<m.length:=(i_.mp e).1;have:=Ze.mp h j (s_.mpr U);rw[Qd5,beq_iff_eq,decide_eq_true_iff]at this;exact this.elim hj fun z=>z e
variable{p6 p7 p8 p9 p10:Pos}{xa xb:Str}
section
def SI.row{p:Addr}{as:List Addr}(R:LRw X.K G H p as w)(si:SI X (eS g H (p::as) i p) m r G σ H)(hm:m[i]? = some .bw)(hb:∀j,j≠i->m[j]?≠some .bw){b:Addr}(Y:b∈p::as)(o:HO):SI X (eS g (upd H b o) (p::as) i p) m r G σ (upd H b o):=by
 have un:=R.un b Y;have Z:∀c,c∉p::as->(eS g H (p::as) i p).h0 c=g.h0 c:=fun c hc=>by show(if c∈p::as then H c else g.h0 c)=_;rw[if_neg hc]
 have ld:∀c,c∈p::as->(eS g H (p::as) i p).h0 c=H c:=fun c hc=>by show(if c∈p::as then H c else g.h0 c)=_;rw[if_pos hc]
 have U:∀c,c∉p::as->(eS g (upd H b o) (p::as) i p).h0 c=g.h0 c:=fun c hc=>by show(if c∈p::as then _ else g.h0 c)=_;rw[if_neg hc]
 have BT:∀c,c∈p::as->(eS g (upd H b o) (p::as) i p).h0 c=upd H b o c:=fun c hc=>by show(if c∈p::as then upd H b o c else g.h0 c)=_;rw[if_pos hc]
 refine⟨fun c d e=>?_,fun c u e=>?_,si.ge,fun c h=>?_,si.lm,si.lr,si.sh,fun j d h1 h2=>?_,fun j d h1 h2=>?_,si.dis,si.lk⟩
 .have hc:c≠b:=by rintro rfl;rw[un]at e;cases e
  exact(si.gok c d e).mono (fun _ _ z=>z) fun u z=>by rw[bX hc];exact z
 .by_cases hc:c∈p::as
  .rw[BT c hc]at e;exact e
  .rw[U c hc]at e;have Cl:c≠b:=by rintro rfl;exact hc Y
   rw[bX Cl];exact si.old c u (by rw[Z c hc];exact e)
 .by_cases hc:c∈p::as
  .exact si.gf c (by rw[ld c hc];exact R.isS hc)
  .rw[U c hc]at h;exact si.gf c (by rw[Z c hc];exact h)
 .obtain⟨a,q1,q2,q3⟩:=si.ow j d h1 h2;have ha:a∉p::as:=fun z=>by rw[ld a z]at q3;exact R.isS z q3
  have Id:a≠b:=by rintro rfl;exact ha Y
  rw[Z a ha]at q3;exact⟨a,q1,⟨q2.un,q2.ob.mono (fun _ _ z=>z) fun u z=>by rw[bX Id];exact z⟩,by rw[U a ha];exact q3⟩
 .by_cases hj:j=i
  .subst hj;have:=(si.lk j (some (V.ref p),none) (by show(if j=j then _ else _)=_;rw[if_pos rfl]) hm).2 d h1;cases this
  .exact absurd h2 (hb j hj)
variable{p11:Pos}{x:Str}{jc:Nat}
end
def LRw.grow{K:W.Frag}{G G':GH}{H H':Hp}{p:Addr}{as:List Addr}{w:List (List D)}(R:LRw K G H p as w)(wg:Grow K G H G' H'):LRw K G' H' p as w:=by
 refine R.mono wg.ge (fun b hb=>?_) fun b hb=>by rw[wg.gf b (R.isS hb)];exact R.un b hb
 cases e:H b with
|none=>exact absurd e (R.isS hb)
|some o=>rw[wg.he b o e]
def pU:List D->Option D
|[.bl b]=>some (.int (if b then 1 else 0))
|_=>none
def Rm{X:Cx}:gp X (.type "int") (fun xs H Q=>∃b:Bool,xs=[.bl b]/\Q (.int (if b then 1 else 0)) H):=by intro pz s σ H xs us Q I r h;obtain⟨b,rfl,q⟩:=h;obtain⟨u,rfl,rx⟩:=cY r;cases rx;exact call_int_bool ⟨.int (if b then 1 else 0),H,I.tok _,⟨_,rfl⟩,q⟩
def Oc{K:W.Frag}:lX K (fun xs H Q=>∃b:Bool,xs=[.bl b]/\Q (.int (if b then 1 else 0)) H) pU:=by
 intro G H vs ds d Q gk rs e q;unfold pU at e;split at e
 .cases e;cases rs with
 |cons r1 t=>cases t;exact⟨_,by rw[r1.bl gk],q _ G H (Grow.refl gk) (.scl (.int _))⟩
 .cases e
def NX{X:Cx}{g:GE}{m:List Md}{e:Expr}{es:List Expr}{fl:aL->Res (List D)}{pos p:Pos}(hg:Gl X "int")(hm:X.mg "int" = none)(ha:iy X g m (e::es) fl)(he:f_ (e::es) X.env=(false,eval e X.env)::f_ es X.env:=by rfl)(z:(backTo pos (f_ es X.env)).any (·.1)=false:=by rfl):SE X g m (.Call (.Name "int" p) (e::es) [] pos) (fC fl pU):=ik Oc (mJ Rm hg hm rfl ha (by decide) (by decide) he z)
inductive Cln:D->Prop where
 |non:Cln .non
 |bl (b:Bool):Cln (.bl b)
 |int (i:Int):Cln (.int i)
 |str (x:Str):Cln (.str x)
 |tup {ds:List D}:(∀d∈ds,Cln d)->Cln (.tup ds)
def Cln.lst{ds:List D}(h:Cln (.lst ds)):False:=nomatch h
def Cln.dic{ds:List (bH×D)}(h:Cln (.dic ds)):False:=nomatch h
def Cln.get{ds:List D}(h:Cln (.tup ds)):∀d∈ds,Cln d:=by cases h with
|tup h=>exact h
def sW(a b:Int):Cln (.tup [.int a,.int b]):=.tup fun d hd=>by
 rcases e_.mp hd with rfl|hd
 .exact .int a
 .rw[H_.mp hd];exact .int b
section
variable{st:Stmt}{x y:Str}
def jR.after(s:jR X g i m r w G σ H)(wg:Grow X.K G H G' H'):jR X g i m r w G' σ H':=by obtain⟨p,as,R,h0,si,hm⟩:=s;exact Jr R h0 si wg.ge (si.grow wg) hm
abbrev iY(i:Nat)(r:aL)(w:List (List D)):aL:=r.set i (some (.lst (w.map D.lst)))
end
abbrev FW:=aL->Res D
end DL
section
namespace DL
section
open PySem PyProof.Rows PySem.W PySem.Calls
variable{prog:C_}{w:N_}{A:W_}{E:Value->h_->Prop}{s:h_}{l:Addr}{vs:List Value}{ns:List Int}
end
open PySem PySem.Spec PyProof.Rows L2
end DL
end
section
namespace DL
section
open PySem PyProof.Rows
variable{prog:C_}{w:N_}{A:W_}{R:Qej->h_->Prop}{I S:Addr}{fp wr:List Addr}{n:Nat}{P:Nat->Value->Prop}{St:Nat->Heap->Prop}{TP:Heap->Prop}{bt:Nat->Nat->Bool}
end
end DL
end
namespace DL
open PySem PySem.Spec PyProof.Rows L2
def Gr{α:Type}{l:List α}{j:Nat}{a:α}(h:l[j]? = some a):l.set j a=l:=by
 refine Qbp fun n=>?_;by_cases hn:j=n
 .subst hn;rw[j_ (i_.mp h).1,h]
 .rw[b_ hn]
variable{X:Cx}{g:GE}{i jr:Nat}{m m':List Md}{r r':aL}{w:List (List D)}{G G':GH}{σ σ':L2.St}{H H':Hp}{ie:Expr}{f fi:FE}{sts:List Stmt}{pos p1 p2 p3 p4:Pos}{y:Str}
section
variable{k:Nat}{m1:List Md}{e:Expr}{st:Stmt}{p5 p6 p7 p8 p9 p10:Pos}{x:Str}
def SI.slot{v:V}(s:SI X g m r G σ H)(hm:m[i]? = some .sh):SI X g m (r.set i none) G (σ.set i (some v)) H:=by
 have key:∀{j:Nat}{d:D},(r.set i none)[j]? = some (some d)->i≠j/\r[j]? = some (some d):=fun{j d} h=>by
  have z:i≠j:=by
   rintro rfl
   rw[List.getElem?_set,if_pos rfl]at h;split at h <;> cases h
  rw[b_ z]at h;exact⟨z,h⟩
 refine⟨s.gok,s.old,s.ge,s.gf,by rw[ZO];exact s.lm,by rw[ZO,ZO];exact s.lr,fun j d h hj=>?_,fun j d h hj=>?_,fun j d h hj=>?_,fun j k a d e hjk h1 h2 m1 m2 q1 q2=>?_,fun j o h hj=>?_⟩
 .obtain⟨z,h⟩:=key h;rw[b_ z];exact s.sh j d h hj
 .obtain⟨z,h⟩:=key h;rw[b_ z];exact s.ow j d h hj
 .obtain⟨z,h⟩:=key h;rw[b_ z];exact s.bw j d h hj
 .obtain⟨z1,h1⟩:=key h1;obtain⟨z2,h2⟩:=key h2;rw[b_ z1]at q1;rw[b_ z2]at q2;exact s.dis j k a d e hjk h1 h2 m1 m2 q1 q2
 .have z:i≠j:=by rintro rfl;rw[hm]at hj;cases hj
  obtain⟨q1,q2⟩:=s.lk j o h hj;exact⟨by rw[b_ z];exact q1,fun d hd=>q2 d (by rw[b_ z]at hd;exact hd)⟩
abbrev FA:=aL->List (List D)->Nat->Option (List (List D))
def jK:FA:=fun _ w _=>some w
def ll(f1 f2:FA):FA:=fun r w k=>(f1 r w k).bind fun w1=>f2 r w1 k
end
section
open PySem.AutoSeq1 (wpAny_loadPart')
section
variable{prog:C_}{w:N_}{A:W_}{E:Value->h_->Prop}{s:h_}
def Tn{Q:List Value->h_->Prop}{r:Addr}{a b c:Int}{t u v:Tok}{n:Nat}(hh:A.handled=none)(hr:IsRange s.heap r a b c t u v)(Z:QbS a b c=true)(hn:ZG a b c=n)(hlen:n<=2^24)(hQ:∀h' tk (z:Array Value),(∀b o,s.heap.get? b=some o->h'.get? b=some o)->QdC (fun i v=>∃t,v=.int (a+i*c) t) z n->Q z.toList { s with heap:=h',toks:=tk }):w_ (B_ prog w) A (collect (.ref r)) Q E s:=by
 unfold collect;refine a_ (wpAny_runValue (QaG F.entry_proto_collect ?_));rw[Qaq F.plain_proto_collect _];show w_ _ A.in1 (newList [] >>= fun l=>again (.builtin "list.__iadd__" ⟨[l,.ref r],[]⟩)) _ _ s;refine a_ (Zk ?_);refine n_ ⟨Qdb F.plain_list_iadd _,QaG F.entry_list_iadd ?_⟩;rw[Qaq F.plain_list_iadd _];show w_ _ A.in1 (Builtin.List.listExtendWith (.ref s.heap.objs.size) (.ref r) (.ref s.heap.objs.size)) _ _ _;have hS:(s.heap.push { cls:=.type "list",data:=.seq ([]:List Value).toArray }).get? s.heap.objs.size=some { cls:=.type "list",data:=.seq #[] 0 }:=t_ _ rfl;have ld:∀h' tk (z:Array Value) c',(∀b o,s.heap.get? b=some o->h'.get? b=some o)->h'.get? s.heap.objs.size=some { cls:=.type "list",dict:=none,data:=.seq z c',slots:=#[] }->QdC (fun i v=>∃t,v=.int (a+i*c) t) z n->w_ (B_ prog w) A (match Value.ref s.heap.objs.size with
  |Value.ref a=>do
    match (<-load a).data with
    |Data.seq xs _=>pure xs.toList
    |_=>unsupported "internal:collect"
  |_=>unsupported "internal:collect") Q E { s with heap:=h',toks:=tk }:=fun h' tk z c' hk Y U=>by show w_ _ A (load s.heap.objs.size >>= _) _ _ _;refine a_ (Qeh Y ?_);exact n_ (hQ h' tk z hk U)
 refine Y7 (wpAny_extend_range (A:=A) (R:=fun res s'=>res=.ok (.ret (.ref s.heap.objs.size))/\∃h' tk z c',s'={ s with heap:=h',toks:=tk }/\(∀b o,s.heap.get? b=some o->h'.get? b=some o)/\h'.get? s.heap.objs.size=some { cls:=.type "list",dict:=none,data:=.seq z c',slots:=#[] }/\QdC (fun i v=>∃t,v=.int (a+i*c) t) z n)
  (s:={ s with heap:=s.heap.push { cls:=.type "list",data:=.seq ([]:List Value).toArray } }) hh (c_ _ hr) Z hn hlen _ _ 0 hS fun h' tk z c' hk Y U=>⟨rfl,h',tk,z,c',rfl,fun b o e=>hk b o (G_ (z_ e)) (c_ _ e),Y,U⟩) (fun fin s' h=>?_) (fun e s' h=>?_)
 .cases fin with
 |done f=>obtain⟨e,h',tk,z,c',rfl,h1,h2,h3⟩:=h;cases e;exact ld h' tk z c' h1 h2 h3
 |again c'=>exact⟨h.1,Qan h.2 fun r s'' hr=>by obtain⟨rfl,h',tk,z,c',rfl,h1,h2,h3⟩:=hr;exact ld h' tk z c' h1 h2 h3⟩
 .exact absurd h.1 (by simp)
end
def Uu(r:Addr)(a b c:Int)(t u v:Tok)(n:Nat)(U:QbS a b c=true)(hn:ZG a b c=n)(hlen:n<=2^24) :
  Meets (QaT.«tuple.__new__» ⟨[.type "tuple",.ref r],[]⟩)
   (fun A R s=>A.handled=none/\IsRange s.heap r a b c t u v/\∀(h':Heap)(tk:Nat)(z:Array Value),(∀b o,s.heap.get? b=some o->h'.get? b=some o)->QdC (fun i v=>∃t,v=.int (a+i*c) t) z n ->R (.ok (.ret (.ref h'.objs.size))) { s with heap:=h'.push { cls:=.type "tuple",data:=.seq z },toks:=tk }):=
 .of_wp fun prog w A R s h=>by
  obtain⟨hh,hr,h⟩:=h;have BT:=sub_tuple_self;have ld:=init_tuple_lookup;have Cl:=madeHere_tuple;have hT:s.TypeIs (.ref r) "range" := ⟨_,hr,rfl⟩
  have Z:A.in1.handled=none:=hh
  wp_walk using ZD hr,Qao hT,Tn Z hr U hn hlen
  intro h' tk z hk Y;show w_ _ _ (Zg z.toList.toArray >>= fun v=>ret v) _ _ _;unfold Zg;refine a_ (Zk ?_ (show z.toList.toArray.size<=sizeLine by simp only[QbC];rw[Y.1,J_];omega));refine n_ ⟨_,rfl,?_⟩;have e:z.toList.toArray=z:=by simp
  rw[e];exact h h' tk z hk Y
section
variable{prog:C_}{w:N_}{A:W_}{E:Value->h_->Prop}{s:h_}
def T5{Q:Value->h_->Prop}{r:Addr}{a b c:Int}{t u v:Tok}{n:Nat}(hh:A.handled=none)(hr:IsRange s.heap r a b c t u v)(U:QbS a b c=true)(hn:ZG a b c=n)(hlen:n<=2^24)(h:∀(h':Heap)(tk:Nat)(z:Array Value),(∀b o,s.heap.get? b=some o->h'.get? b=some o)->QdC (fun i v=>∃t,v=.int (a+i*c) t) z n->Q (.ref h'.objs.size) { s with heap:=h'.push { cls:=.type "tuple",data:=.seq z },toks:=tk }):w_ (B_ prog w) A (call (.type "tuple") [.ref r]) Q E s:=
 QdB F.called_tuple (by decide) (F.typeCall_tuple_1 _) (F.newCall_tuple_1 _) (fun obj=>F.args_object_init_2 obj _) F.entry_tuple_new
  (Uu r a b c t u v n U hn hlen) ⟨hh,hr,fun h' tk z hk Y=>⟨⟨_,t_ _ rfl,rfl⟩,h h' tk z hk Y⟩⟩
end
section
variable{X:Cx}{g:GE}{m:List Md}{a b:Expr}{pos p pos2 p2:Pos}{fl:aL->Res (List D)}
def TH(hc:X.calm=true):gp X (.type "tuple") (fun xs H Q=>∃p lo hi,xs=[.ref p]/\H p=some (.rng lo hi)/\(-(2^62)<=lo/\lo<2^62/\-(2^62)<=hi/\hi<2^62)/\(hi-lo).toNat<=sizeLine/\∀l,H l=none->Q (.ref l) (upd H l (.tup (eF lo (hi-lo).toNat)))):=by
 intro pz s σ H xs us Q I r h;obtain⟨p,lo,hi,rfl,hp,⟨h1,h2,h3,h4⟩,hz,q⟩:=h;obtain⟨u,rfl,rx⟩:=cY r;cases rx;obtain⟨t,u,v,ho⟩:=(show du X.prog X.w H s.heap p (.rng lo hi)from I.hok p _ hp)
 have e2:ZG lo hi 1=(((hi-lo).toNat:Nat):Int):=by rw[Qc7];split <;> omega
 refine T5 (I.ok.hd hc) (r:=p) (a:=lo) (b:=hi) (c:=1) ho (small_one h1 h2 h3 h4) e2 (by rw[J_]at hz;omega) fun h' tk z kp U=>?_;have I1:Inv X pz σ H { s with heap:=h',toks:=tk }:=I.kept (t':=tk) kp;have hv:=Iy U;have I2:Inv X pz σ (upd H h'.objs.size (.tup (eF lo (hi-lo).toNat))) { s with heap:=h'.push { cls:=.type "tuple",data:=.seq z },toks:=tk }:=I1.laid (t':=tk) (fun b o e=>c_ _ e) (y_ _) (show du X.prog X.w _ _ _ (.tup (eF lo (hi-lo).toNat))from⟨by unfold eF;rw[q_,Qcf];exact hz,z.toList,hv,by rw[QbC];exact QdL _ _,_,t_ _ rfl,rfl⟩);exact⟨.ref h'.objs.size,_,I2,rfl,q _ (I1.hok.fresh (y_ _))⟩
def oa:List D->Option D
|[.int j]=>if-(2^62)<=j/\j<2^62/\j.toNat<=sizeLine then some (.tup (eG 0 j.toNat))else none
|_=>none
def HR(hc:X.calm=true)(Y:Gl X "tuple")(U:X.mg "tuple" = none)(hg:Gl X "range")(hm:X.mg "range" = none)(ha:iy X g m [a] fl)(hs:f_ [a] X.env=(false,eval a X.env)::f_ [] X.env:=by rfl)(z:f_ [.Call (.Name "range" p2) [a] [] pos2] X.env=(false,eval (.Call (.Name "range" p2) [a] [] pos2) X.env)::f_ [] X.env:=by rfl):SE X g m (.Call (.Name "tuple" p) [.Call (.Name "range" p2) [a] [] pos2] [] pos) (fC fl oa):=by
 refine PE.imp (mJ (TH hc) Y U rfl (fO (mJ Jd hg hm Qei ha (by decide) (by decide) hs rfl) iE z) (by decide) (by decide) z rfl) fun σ H Q ⟨r,G,si,q⟩=>⟨r,G,si,cn (cw q) fun ds q1 vs G1 H1 w1 rs=>?_⟩
 obtain⟨d,e,q2⟩:=dQ q1;unfold oa at e;split at e
 .split at e
  .rename_i j hj;cases e;cases rs with
  |cons r1 t=>cases t;refine⟨j,by rw[r1.int w1.ok],fun p hp=>⟨p,0,j,rfl,cQ,⟨by decide,by decide,hj.1,hj.2.1⟩,by rw[Int.sub_zero];exact hj.2.2,fun l hl=>?_⟩⟩;have w2:=Grow.new w1.ok hp (.rng 0 j);have w3:=Grow.newF w2.ok hl (.tup (.inl cQ) (Gm (K:=X.K) (G:=G1) 0 j.toNat));rw[Int.sub_zero];exact q2 _ _ _ (w1.trans (w2.trans w3)) (.ref fW)
  .cases e
 .cases e
end
end
def Et(g:GE)(G:GH):GE:=⟨G,g.h0,g.hd⟩
def zK(X:Cx)(g:GE)(i:Nat)(w:List (List D)):Prop:=∃p as,g.hd i=some (some (V.ref p),none)/\g.h0 p=some (.lst (as.map V.ref))/\Paired (fun b ds=>∃xs,g.h0 b=some (.lst xs)/\cR X.K g.gh xs ds/\g.gh b=none) as w
def eD(w:List (List D))(fi:FE):FE:=fun r=>(fi r).bind fun d=>match d with
|.int v=>dw (((gu w.length v).bind (w[·]?)).map D.lst)
|_=>.stuck
variable{ro:Bool}{mb:List Md}
section
variable{k:Nat}{m0:List Md}{r0:aL}{G0:GH}{σ0:L2.St}{H0:Hp}{st:Stmt}{x:Str}
def SI.re(s:SI X g m r G σ H):SI X (Et g G) m r G σ H:=⟨s.gok,s.old,fun _ _ h=>h,fun _ _=>rfl,s.lm,s.lr,s.sh,s.ow,s.bw,s.dis,s.lk⟩
def SI.unre(s0:SI X g m0 r0 G0 σ0 H0)(s:SI X (Et g G0) m r G σ H):SI X g m r G σ H:=⟨s.gok,s.old,fun a d h=>s.ge a d (s0.ge a d h),fun a h=>(s.gf a h).trans (s0.gf a h),s.lm,s.lr,s.sh,s.ow,s.bw,s.dis,s.lk⟩
def nV(hR:zK X g i w)(hm:m[i]? = some .bw)(hN:X.N[i]? = some x)(hv:gA X.env.scope x)(hi:SE X g m ie fi)(hd:(x==("__debug__" : Str))=false:=by decide)(U:(x==("__classdict__" : Str))=false:=by decide)(z:vF ie:=by intro _ _;rfl):SB X g m (.Subscript (.Name x p2) ie p3) (eD w fi):=by obtain⟨p,as,h1,h2,h3⟩:=hR;refine PE.imp (Fq Hs (gP hN hv hd U) hi z) fun σ H Q ⟨r,G,si,q⟩=>?_;have Y:σ[i]? = some (some (V.ref p)):=(si.lk i _ h1 hm).1;refine⟨_,Y,r,G,si,cn (cw q) fun d q1 v G1 H1 w1 r1=>?_⟩;cases d with
|int vx=>obtain⟨d',e',q2⟩:=dQ q1;have rv:=r1.int w1.ok;subst rv;have s1:=si.grow w1;cases ex:gu w.length vx with
 |none=>rw[ex]at e';cases e'
 |some k=>rw[ex]at e';cases ew:w[k]? with
  |none=>rw[Qaf,ew]at e';cases e'
  |some ds=>
    rw[Qaf,ew]at e';cases e';obtain⟨b,hb,xs,z1,z2,z3⟩:=Paired.get h3 ew;have Z:gR (as.map V.ref) vx=some (V.ref b):=by unfold gR;rw[q_,Paired.length h3,ex];show(as.map V.ref)[k]? = _;rw[x_,hb];rfl
    refine⟨p,_,vx,_,rfl,rfl,cy.of (s1.old _ _ h2),Z,q2 _ G1 H1 w1 (.inr ⟨b,rfl,?_,.lst (s1.old _ _ z1) (z2.mono s1.ge)⟩)⟩;rw[s1.gf b (by rw[z1];simp)];exact z3
|_=>exact(show False from q1).elim
def AU{s1:List (List D)->FS}(h:∀g' w,zK X g' i w->SS X g' ro mb m st (s1 w) m')(hm:m'[i]? = some .bw):yP X g i m st (fun r w=>jP (s1 w) r w) m':=by
 have hA:PS X st (fun D σ H=>∃g' w,zK X g' i w/\tS X g' ro m m' mb (s1 w) D σ H):=fun pz s σ H D I ⟨g',w,hh,q⟩=>(h g' w hh).2 pz s σ H D I q;refine PS.imp hA fun D σ H ⟨r,w,G,⟨p,as,R,h0,si,_⟩,r',w',e,k⟩=>⟨Et (eS g H (p::as) i p) G,w,⟨p,as,?_,?_,?_⟩,r,G,si.re,?_⟩
 .show(if i=i then _ else _)=_;rw[if_pos rfl]
 .show(if p∈p::as then H p else _)=_;rw[if_pos r_];exact R.out
 .refine vL R.rw fun b hb ds ⟨xs,e1,e2⟩=>⟨xs,?_,e2,R.un b (m_ _ hb)⟩
  show(if b∈p::as then H b else _)=_;rw[if_pos (m_ _ hb)];exact e1
 .replace e:jP (s1 w) r w=some (r',w'):=e;unfold jP at e;cases q:s1 w r with
 |nx r1=>rw[q]at e;cases e;exact fun σ' G' H' le si'=>k σ' G' H' le (Jr R h0 si le (si.unre si') hm)
 |_=>rw[q]at e;cases e
def jQ(X:Cx)(g:GE)(i jr:Nat)(m:List Md)(r:aL)(w:List (List D))(k:Nat)(G:GH)(st:L2.St)(H:Hp)(p:Addr)(as:List Addr):Prop:=∃q,LRw X.K G H p as w/\(∀b∈p::as,g.h0 b=none)/\SI X (eS g H (p::as) i p) m r G st H/\as[k]? = some q/\st[jr]? = some (some (V.ref q))/\m[i]? = some .bw/\m[jr]? = some .sh/\r[jr]? = some none
def m6(X:Cx)(g:GE)(i jr:Nat)(m:List Md)(f:FA):TS:=fun D σ H=>∃r w k G p as,jQ X g i jr m r w k G σ H p as/\∃w',f r w k=some w'/\∀G' H',bO G G'->jQ X g i jr m r w' k G' σ H' p as->D.nx σ H'
def jQ.after{p:Addr}{as:List Addr}(s:jQ X g i jr m r w k G σ H p as)(wg:Grow X.K G H G' H'):jQ X g i jr m r w k G' σ H' p as:=by
 obtain⟨q,R,h0,si,h1,h2,h3,h4,h5⟩:=s;have he:∀b∈p::as,H' b=H b:=fun b hb=>by cases e:H b with
 |none=>exact absurd e (R.isS hb)
 |some o=>rw[wg.he b o e]
 exact⟨q,R.grow wg,h0,by rw[Im he];exact si.grow wg,h1,h2,h3,h4,h5⟩
def jQ.put{p q:Addr}{as:List Addr}{ds:List D}{xs:List V}(R:LRw X.K G H p as w)(h0:∀b∈p::as,g.h0 b=none)(si:SI X (eS g H (p::as) i p) m r G σ H)(hq:as[k]? = some q)(Y:σ[jr]? = some (some (V.ref q)))(hm:m[i]? = some .bw)(Z:m[jr]? = some .sh)(hr:r[jr]? = some none)(hb:∀j,j≠i->m[j]?≠some .bw)(rs:cR X.K G xs ds):jQ X g i jr m r (w.set k ds) k G σ (upd H q (.lst xs)) p as:=by
 have z:q∈as:=Z0 hq;have nd:=Zd.mp R.nd;have U:q≠p:=by rintro rfl;exact nd.1 z
 exact⟨q,⟨by rw[bX (ZP U)];exact R.out,R.nd,R.un,QO R.rw nd.2 hq ⟨_,cQ,rs⟩ fun b' x' hne ⟨xs',e1,e2⟩=>⟨xs',by rw[bX hne];exact e1,e2⟩⟩,h0,SI.row R si hm hb (m_ _ z) _,hq,Y,hm,Z,hr⟩
def jQ.row{p:Addr}{as:List Addr}(s:jQ X g i jr m r w k G σ H p as):∃q xs,as[k]? = some q/\σ[jr]? = some (some (V.ref q))/\H q=some (.lst xs)/\cR X.K G xs (w.getD k []):=by
 obtain⟨q,R,h0,si,hq,z,_⟩:=s;have hk:k<w.length:=by rw[<-Paired.length R.rw];exact(i_.mp hq).1
 have hw:w[k]? = some (w.getD k []):=by rw[A_,o_ hk];rfl
 obtain⟨q',hq',xs,hx,rs⟩:=Paired.get R.rw hw;rw[hq]at hq';cases hq';exact⟨q,xs,hq,z,hx,rs⟩
def Gs:dq X [] (m6 X g i jr m jK):=dq.imp AQ fun D σ H ⟨r,w,k,G,p,as,s,w',e,kk⟩=>by cases e;exact kk G H (bO.refl G) s
def uT{f1 f2:FA}(h1:PS X st (m6 X g i jr m f1))(h2:dq X sts (m6 X g i jr m f2)):dq X (st::sts) (m6 X g i jr m (ll f1 f2)):=by
 refine dq.imp (o9 h1 h2) fun D σ H ⟨r,w,k,G,p,as,si,w',e,kk⟩=>⟨r,w,k,G,p,as,si,?_⟩
 unfold ll at e;cases q:f1 r w k with
|none=>rw[q]at e;cases e
|some z=>rw[q]at e;exact⟨z,rfl,fun G' H' le si'=>⟨r,z,k,G',p,as,si',w',e,fun G2 H2 le2 U=>kk G2 H2 (le.trans le2) U⟩⟩
def kP:FA:=fun _ w k=>some (w.set k (w.getD k []).reverse)
def Gq(hb:∀j,j≠i->m[j]?≠some .bw)(hN:X.N[jr]? = some y)(hv:gA X.env.scope y)(hd:(y==("__debug__" : Str))=false:=by decide)(ld:(y==("__classdict__" : Str))=false:=by decide)(z:Qac (.Name y p1) "reverse" X.env (eval (.Name y p1) X.env)=eval (.Name y p1) X.env:=by rfl)(U:(p2.endLine==p3.line)=true:=by rfl):PS X (.Expr (.Call (.Attribute (.Name y p1) "reverse" p2) [] [] p3) pos) (m6 X g i jr m kP):=by refine PS.imp (uZ (MD Za PySem.F.slot_list_reverse PySem.F.type_list_reverse Sr (gP hN hv hd ld) z U)) fun D0 σ H ⟨r,w,k,G,p,as,s,w',e,kk⟩=>?_;cases e;obtain⟨q,xs,hq,Y,hx,rs⟩:=s.row;obtain⟨q',R,h0,si,hq',BT,hm,Z,hr⟩:=s;exact⟨_,Y,.inl ⟨rfl,_,cy.of hx⟩,q,xs,rfl,rfl,hx,kk G _ (bO.refl G) (jQ.put R h0 si hq Y hm Z hr hb (Paired.rev rs))⟩
def ir(c:Int):FA:=fun _ w k=>if (w.getD k []).length<sizeLine then some (w.set k (w.getD k []++[.int c]))else none
def Gp{c:Int}{ie:Expr}(hb:∀j,j≠i->m[j]?≠some .bw)(hN:X.N[jr]? = some y)(hv:gA X.env.scope y)(hi:∀g',SE X g' m ie fun _=>.ok (.int c))(hd:(y==("__debug__" : Str))=false:=by decide)(Id:(y==("__classdict__" : Str))=false:=by decide)(Y:Qac (.Name y p1) "append" X.env (eval (.Name y p1) X.env)=eval (.Name y p1) X.env:=by rfl)(BT:((backTo p3 (f_ [ie] X.env)).all (fun x=>! x.1)&&(QbX p3 (QaP [] X.env)).all (fun x=>x.1.isSome)&&decide ([ie].length+([]:List Qcy).length+(if ([]:List Qcy).isEmpty then 0 else 1)<30))=true:=by rfl)(Z:(p2.endLine==p3.line)=true:=by rfl)(z:f_ [ie] X.env=(false,eval ie X.env)::f_ [] X.env:=by rfl)(U:(backTo p3 (f_ [] X.env)).any (·.1)=false:=by rfl):PS X (.Expr (.Call (.Attribute (.Name y p1) "append" p2) [ie] [] p3) pos) (m6 X g i jr m (ir c)):=by
 have IO:PE X ie (fun σ H Q=>∃g',tE X g' m (fun _=>.ok (.int c)) σ H Q):=fun pz s σ H Q I ⟨g',k⟩=>hi g' pz s σ H Q I k;refine PS.imp (uZ (zX Za ZW ZX pf (gP hN hv hd Id) (fO IO iE z) Y BT Z z U)) fun D0 σ H ⟨r,w,k,G,p,as,s,w',e,kk⟩=>?_;unfold ir at e;split at e
 .rename_i hl;cases e;obtain⟨q,xs,hq,z,hx,rs⟩:=s.row;refine⟨_,z,.inl ⟨rfl,_,cy.of hx⟩,_,r,G,s.choose_spec.2.2.1,?_⟩;intro v G1 H1 wg rv;have s1:=s.after wg;obtain⟨q2,xs,ld,LE,hx,rs⟩:=s1.row;rw[hq]at ld;cases ld;obtain⟨q',R,h0,si,hq',KK,hm,Cl,hr⟩:=s1;exact⟨q,xs,v,rfl,rfl,hx,by rw[Paired.length rs];exact hl,kk G1 _ wg.ge (jQ.put R h0 si hq z hm Cl hr hb (Paired.snoc rs rv))⟩
 .cases e
def fB(fA:FA)(r:aL):Nat->Nat->List (List D)->Option (List (List D))
|0,_,w=>some w
|n+1,k,w=>(fA r w k).bind fun w1=>fB fA r n (k+1) w1
def tY(jr:Nat)(fA:FA):lR:=fun r w=>(fB fA (r.set jr none) w.length 0 w).map fun w'=>(r.set jr none,w')
def IJ{fA:FA}(hp:QbT (B_ X.prog X.w) X.A X.env X.xe)(hc:X.calm=true)(hm:m[i]? = some .bw)(U:m[jr]? = some .sh)(hN:X.N.Nodup)(Cl:X.N[i]? = some x)(LE:gA X.env.scope x)(LT:X.N[jr]? = some y)(hy:iN X.env.scope y)(BT:dq X sts (m6 X g i jr m fA))(hd:(x==("__debug__" : Str))=false:=by decide)(IO:(x==("__classdict__" : Str))=false:=by decide)(hs:∀z,Zq (.Name x p2) X.env z=pure z:=by intro _;rfl)(hf:X.fn y=true\/X.env.scope.names.lookup y=some .local:=by first|exact .inl rfl|exact .inr rfl|assumption):yP X g i m (.For (.Name y p1) (.Name x p2) sts [] pos) (tY jr fA) m:=by
 refine PS.imp (uI hp hc (Pj (gP Cl LE hd IO)) (Hl hN LT hy hf) BT hs) fun D0 σ H ⟨r,w,G,⟨p,as,R,h0,si,_⟩,r',w',e,kk⟩=>?_;have lk:∀{σ1:L2.St}{r1:aL}{G1:GH}{H1:Hp},SI X (eS g H1 (p::as) i p) m r1 G1 σ1 H1->σ1[i]? = some (some (V.ref p)):=fun s=>(s.lk i (some (V.ref p),none) (by show(if i=i then _ else _)=_;rw[if_pos rfl]) hm).1;have Z:jr<m.length:=(i_.mp U).1;have Y:(r.set jr none)[jr]? = some none:=by rw[j_ (by rw[si.lr,<-si.lm];exact Z)]
 have Id:as.length=w.length:=Paired.length R.rw;unfold tY at e;cases ew:fB fA (r.set jr none) w.length 0 w with
|none=>rw[ew]at e;cases e
|some wz=>
  rw[ew]at e;cases e;refine⟨_,lk si,p,rfl,⟨_,cy.of R.out⟩,fun j n σ1 H1=>∃w1 G1,(LRw X.K G1 H1 p as w1/\SI X (eS g H1 (p::as) i p) m (r.set jr none) G1 σ1 H1)/\bO G G1/\j<=w.length/\n=w.length-j/\fB fA (r.set jr none) n j w1=some w',⟨w.length,w,G,⟨R,si.less (by simp) fun l d hl=>?_⟩,bO.refl _,Zf _,rfl,ew⟩,?_⟩
  .by_cases hjl:jr=l
   .subst hjl;rw[Y]at hl;cases hl
   .rw[b_ hjl]at hl;exact hl
  rintro j n σ1 H1 ⟨w1,G1,⟨R1,si1⟩,le1,hj,rfl,e1⟩
  by_cases ld:j<w.length
  .refine .inr ⟨⟨_,(as.map V.ref)[j]'(by rw[q_];omega),cy.of R1.out,o_ _⟩,fun σ' H'=>∃w2 G2,(LRw X.K G2 H' p as w2/\SI X (eS g H' (p::as) i p) m (r.set jr none) G2 σ' H')/\bO G G2/\fB fA (r.set jr none) (w.length-(j+1)) (j+1) w2=some w',fun σ' H' ⟨w2,G2,s2,le2,q2⟩=>⟨w.length-(j+1),by omega,w2,G2,s2,le2,ld,rfl,q2⟩,fun v H' ⟨eH,hv⟩=>?_⟩;subst eH;have hv:=hv _ (cy.of R1.out);rw[x_]at hv;cases ea:as[j]? with
  |none=>rw[ea]at hv;cases hv
  |some q=>rw[ea]at hv;cases hv;rw[show w.length-j=(w.length-(j+1))+1 by omega,fB]at e1;cases ef:fA (r.set jr none) w1 j with
   |none=>rw[ef]at e1;cases e1
   |some w2=>rw[ef]at e1;have S1:=si1.slot (v:=.ref q) U;rw[Gr Y]at S1;exact⟨r.set jr none,w1,j,G1,p,as,⟨q,R1,h0,S1,ea,by rw[j_ (by rw[<-si1.lm];exact Z)],hm,U,Y⟩,w2,ef,fun G3 H3 KK ⟨q3,R3,_,si3,_⟩=>⟨w2,G3,⟨R3,si3⟩,le1.trans KK,e1⟩⟩
  .have ej:j=w.length:=by omega
   subst ej;rw[Nat.sub_self]at e1;cases e1;exact .inl ⟨⟨_,cy.of R1.out,by rw[q_,Id];exact y_ _⟩,kk σ1 G1 H1 le1 ⟨p,as,R1,h0,si1,hm⟩⟩
end
open Classical in
def NB{K:W.Frag}{G G1 G':GH}{H H':Hp}(gk:bW K G H)(le:bO G G1)(hx:∀b d,G b=none->G1 b=some d->¬ Cln d)(w:Grow K G1 H G' H'):∃G2,Grow K G H G2 H'/\(∀v d,Cln d->RG K G' v d->RG K G2 v d)/\∀b,G' b=none->G2 b=none:=by
 have key:∀v d,Cln d->RG K G' v d->RG K (fun b=>if G b≠none then G b else if H b≠none then none else if ∃d,G' b=some d/\Cln d then G' b else none) v d:=fun v d hc h=>by cases h with
 |scl s=>exact .scl s
 |kc k=>exact .kc k
 |@ref a _ e=>
   refine .ref ?_;show(if G a≠none then G a else _)=some d;by_cases h1:G a=none
   .rw[if_neg (fun z=>z h1)];by_cases h2:H a=none
    .rw[if_neg (fun z=>z h2),if_pos ⟨d,e,hc⟩];exact e
    .rw[w.gf a h2]at e;exact absurd hc (hx a d h1 e)
   .rw[if_pos h1];cases q:G a with
   |none=>exact absurd q h1
   |some d'=>rw[w.ge a d' (le a d' q)]at e;exact e
 have keys:∀vs ds,(∀d∈ds,Cln d)->cR K G' vs ds->cR K (fun b=>if G b≠none then G b else if H b≠none then none else if ∃d,G' b=some d/\Cln d then G' b else none) vs ds:=fun vs ds hc h=>by induction h with
 |nil=>exact .nil
 |cons r _ ih=>exact .cons (key _ _ (hc _ r_) r) (ih fun d hd=>hc d (m_ _ hd))
 have ge:bO G fun b=>if G b≠none then G b else if H b≠none then none else if ∃d,G' b=some d/\Cln d then G' b else none:=fun a d e=>by show(if G a≠none then G a else _)=some d;rw[if_pos (by rw[e];simp)];exact e
 refine⟨_,⟨fun a d e=>?_,w.he,ge,fun a h=>?_⟩,key,fun b hb=>?_⟩
 .have e':(if G a≠none then G a else if H a≠none then none else if ∃d,G' a=some d/\Cln d then G' a else none)=some d:=e;by_cases h1:G a=none
  .rw[if_neg (fun z=>z h1)]at e';by_cases h2:H a=none
   .rw[if_neg (fun z=>z h2)]at e';by_cases h3:∃d,G' a=some d/\Cln d
    .rw[if_pos h3]at e';obtain⟨d',q1,q2⟩:=h3;rw[q1]at e';cases e';have ob:=w.ok a d q1;cases ob with
    |lst _ _=>exact q2.lst.elim
    |dic _ _=>exact q2.dic.elim
    |exc _ _ _=>exact absurd q2 (by intro z;cases z)
    |fld _ _=>exact absurd q2 (by intro z;cases z)
    |ins _ _ _=>exact absurd q2 (by intro z;cases z)
    |tup r s=>exact .tup r (keys _ _ q2.get s)
    .rw[if_neg h3]at e';cases e'
   .rw[if_pos h2]at e';cases e'
  .rw[if_pos h1]at e';exact(gk a d e').mono ge fun o z=>w.he a o z
 .show(if G a≠none then G a else _)=G a;by_cases h1:G a=none
  .rw[if_neg (fun z=>z h1),if_pos h,h1]
  .rw[if_pos h1]
 .show(if G b≠none then G b else _)=none;by_cases h1:G b=none
  .rw[if_neg (fun z=>z h1)];by_cases h2:H b=none
   .rw[if_neg (fun z=>z h2),if_neg (fun⟨d,z,_⟩=>by rw[hb]at z;cases z)]
   .rw[if_pos h2]
  .cases q:G b with
  |none=>exact absurd q h1
  |some d'=>rw[w.ge b d' (le b d' q)]at hb;cases hb
section
variable{scope:Qa1}{N':List Str}{nl:Nat}{cap:List Nat}{elt tg iter:Expr}{ifs:List Expr}{pos' spos:Pos}{fi:FI}{ft:FT}{q:FQ}{fe:FE}
def FC(X:Cx)(g:GE)(i:Nat)(m:List Md)(f:aL->Option (aL×List (List D))):TS:=fun D σ H=>∃r G,SI X g m r G σ H/\∃r' w',f r=some (r',w')/\∀p as G' H',Grow X.K G H G' H'->LRw X.K G' H' p as w'->(∀b∈p::as,H b=none)->D.nx (σ.set i (some (V.ref p))) H'
def JL(i:Nat){y:Str}(hN:X.N.Nodup)(Z:X.calm=true)(hy:X.N[i]? = some y)(BT:X.env.scope.names.lookup y=some .local)(sc:CompSc X scope N' nl cap)(hi:iu X g m tg iter fi)(hg:∀s0 H0 cl C fp g',SG (gz X s0 H0 N' scope cl C fp) g' (bT nl cap m) tg ft (bT nl cap m))(Ty:iz ft nl)(hq:∀s0 H0 cl C fp g',lQ (gz X s0 H0 N' scope cl C fp) g' (bT nl cap m) ifs q)(he:∀s0 H0 cl C fp g',SO (gz X s0 H0 N' scope cl C fp) g' (bT nl cap m) elt fe)(UW:Qaw (.ListComp elt [⟨tg,iter,ifs,0⟩] scope pos) (some (.Name y pos')) spos.line X.env=pure true:=by rfl)(hs:∀x,Zq iter X.env x=pure x:=by intro _;rfl):PS X (.Assign [.Name y pos'] (.ListComp elt [⟨tg,iter,ifs,0⟩] scope pos) spos) (FC X g i m (lU i (eR nl cap fi ft q fe))):=by
 intro pz s σ H D0 I h;obtain⟨r,G,si,r',w',ef,k⟩:=h;obtain⟨cl,hcl,h1,h2⟩:=sc.clo (pz:=pz) (σ:=σ) (H:=H) (s:=s) I.ok;have k1:fin (fi r) (fun ds=>∃vs,ds.length<=sizeLine/\gB ft q fe (cF nl cap r) ds=.ok vs/\vs=w'.map D.lst/\r'=r.set i none) (XW X σ G H):=by unfold lU at ef;cases e:eR nl cap fi ft q fe r with
 |ok d=>rw[e]at ef;cases d with
  |lst vs=>have U:(j0 vs).map (fun w=>(r.set i none,w))=some (r',w'):=ef;cases ea:j0 vs with
   |none=>rw[ea]at U;cases U
   |some w1=>rw[ea]at U;cases U;obtain⟨ds,vs',z1,z2,z3,z4⟩:=P7 e;cases z4;rw[z1];exact⟨vs,z2,z3,Rj ea,rfl⟩
  |_=>cases ef
 |exc x=>rw[e]at ef;cases ef
 |stuck=>rw[e]at ef;cases ef
 rw[QcH _ _ _ _ UW];refine a_ (QaH (a_ ?_));show w_ _ X.A (do let _ <-comprehension (.ListComp elt [⟨tg,iter,ifs,0⟩] scope pos) scope X.env _ (newList []) false (eval iter X.env) (some (Qax (.Name y pos') X.env))) _ _ s;refine a_ (Y7 (Qa4 (use:=some (Qax (.Name y pos') X.env)) (Q:=fun _ s'=>SP X pz D0 .next s') rfl hs hcl sc.kind sc.names (bL (hi pz s σ H (fun J H'=>∃G' ds vs,Grow X.K G H G' H'/\YieldsC X.K J ds G' H'/\ds.length<=sizeLine/\gB ft q fe (cF nl cap r) ds=.ok vs /\vs=w'.map D.lst/\r'=r.set i none) I ⟨r,G,si,cn k1 fun ds ⟨vs,z1,z2,z3,z4⟩ J G' H' w y=>⟨G',ds,vs,w,y,z1,z2,z3,z4⟩⟩) fun v s1 hv=>bL hv fun itv s2 LE=>?_)) (fun _ s' hq=>n_ (n_ hq)) fun _ _ e=>e);obtain⟨it,fp,tn,J,H2,rfl,I2,T,st,hf,G2,ds,vs,w2,Y,hsz,Id,KK,Tm⟩:=LE;refine Ca (El:=fun K _ H G' H' v d=>∃a,v=V.ref a/\H a=none/\Own K G' H' a d) (Rl:=fun p G H ws ds=>RO X.K H2 p G H ws ds) (fun _ _ _=>⟨.nil,Qeq⟩) RO.grow (fun h=>Paired.length h.1) (fun h w w2 hp ⟨a,ev,hn,ho⟩=>by subst ev;exact(h.add w hn (w2.back hn) (by rintro rfl;rw[hp]at hn;cases hn) ho).upd) (RR:=fun US C=>compPost (B_ X.prog X.w) X.A X.xe (some (Qax (.Name y pos') X.env)) (fun _ s'=>SP X pz D0 .next s') US C) hN Z sc h1 h2 I2 (si.grow w2) T st hf Y hsz (fun C=>hg _ _ _ _ _ _) Ty (fun C=>hq _ _ _ _ _ _) (fun C=>PE.imp (he _ _ _ _ _ _) fun σ H Q ⟨r,G,si,k⟩=>⟨r,G,si,cn k fun d k a G' H' w hn ho=>k _ G' H' w ⟨a,rfl,hn,ho⟩⟩) Id ?_;intro p C s' H' G' I' UV UX ld ST Cl LT w' hp ho;obtain⟨mm,hn⟩:=UV;show w_ _ X.A (Qax (.Name y pos') X.env (.ref p)) _ _ s';refine Qb9 (BP I' hN hy (.inl BT) (v:=.ref p) rfl (fun s'' UU ⟨a,hsb,ha⟩=>?_) (.inr BT));have UT:C≠a:=by
  rcases ha with z|z
  .rw[z];exact ld
  .exact(Cl y a z).symm
 refine⟨mm,hn.sameBut hsb UT,fun h' IO=>?_⟩;refine⟨_,H',UU.turned (it:=C) (t':=s''.toks) (fun b o hb e=>IO.extBut b o hb e) UX ld (.inr ST) Cl LT,?_⟩;obtain⟨ws,o1,o2,o3⟩:=ho;subst KK;obtain⟨as,R,fr⟩:=NN o3 o1 o2 hp;subst Tm;exact k p as G' H' (w2.trans w') R fun b hb=>w2.back (fr b hb)
end
section
variable{j:Nat}{st:Stmt}
open Classical in
def tU(i j:Nat)(f:FE):lR:=fun r w=>match lU j f (iY i r w)with
|some (_,w1)=>if ∀ds∈w1,∀d∈ds,Cln d then some (r.set j (some (.lst (w1.map D.lst))),w)else none
|none=>none
def HP(KK:i≠j)(Y:m[j]? = some .sh)(hb:∀j,j≠i->m[j]?≠some .bw)(h:∀g',PS X st (FC X g' j (m.set i .sh) (lU j f))):yP X g i m st (tU i j f) m:=by
 refine PS.imp (h g) fun D0 σ H ⟨r,w,G,s,r',w',e,k⟩=>?_;have gk:bW X.K G H:=by obtain⟨p,as,R,h0,si,hm⟩:=s;exact si.gok
 obtain⟨G1,le,hx,si⟩:=s.frz hb;unfold tU at e;cases ef:lU j f (iY i r w)with
|none=>rw[ef]at e;cases e
|some z=>
  obtain⟨r1,w1⟩:=z;rw[ef]at e;simp only[]at e;by_cases hc:∀ds∈w1,∀d∈ds,Cln d
  .rw[if_pos hc]at e;cases e;refine⟨_,G1,si,r1,w1,ef,fun p as G' H' wg R hn=>?_⟩;obtain⟨G2,w2,q2,u2⟩:=NB gk le (fun b d h1 h2 hc=>by obtain⟨ds,rfl⟩:=hx b d h1 h2;exact hc.lst) wg;have Z:∀{xs:List V}{ds:List D},(∀d∈ds,Cln d)->cR X.K G' xs ds->cR X.K G2 xs ds:=fun{xs ds} hd h=>by induction h with
   |nil=>exact .nil
   |cons r _ ih=>exact .cons (q2 _ _ (hd _ r_) r) (ih fun d ld=>hd d (m_ _ ld))
   have Id:∀{as:List Addr}{w1:List (List D)},(∀ds∈w1,∀d∈ds,Cln d)->Paired (gi X.K G' H') as w1->Paired (gi X.K G2 H') as w1:=fun{as w1} hc h=>by induction h with
   |nil=>exact .nil
   |cons r _ ih=>obtain⟨xs,e1,e2⟩:=r;exact .cons ⟨xs,e1,Z (hc _ r_) e2⟩ (ih fun ds hd=>hc ds (m_ _ hd))
   have nd:=Zd.mp R.nd;obtain⟨G3,l3,o3,g3,p3⟩:=GU w2.ok (Id hc R.rw) nd.2 fun b hb=>u2 b (R.un b (m_ _ hb));have hp3:G3 p=none:=by rw[o3 p nd.1];exact u2 p (R.un p r_)
   have rs:cR X.K G3 (as.map V.ref) (w1.map D.lst):=by
    have:∀{as:List Addr}{w:List (List D)},Paired (fun b ds=>G3 b=some (.lst ds)) as w->cR X.K G3 (as.map V.ref) (w.map D.lst):=fun{as w} q=>by induction q with
    |nil=>exact .nil
    |cons h _ ih=>exact .cons (.ref h) ih
    exact this p3
   have g4:bW X.K (gset G3 p (.lst (w1.map D.lst))) H':=g3.gset hp3 (.lst (.inl R.out) rs);have w4:Grow X.K G H (gset G3 p (.lst (w1.map D.lst))) H':=⟨g4,w2.he,fun b d hb=>ii hp3 b d (l3 b d (w2.ge b d hb)),fun b hb=>by have nb:b∉p::as:=fun z=>hb (hn b z);rw[ib (by rintro rfl;exact nb r_),o3 b fun z=>nb (m_ _ z)];exact w2.gf b hb⟩
   have s4:=s.after w4;obtain⟨p5,BT,R5,IO,U,Cl⟩:=s4;have S:=U.set j (v:=.ref p) (.ref fW);rw[Gr Y]at S;exact k _ _ H' w4.ge ⟨p5,BT,R5,IO,S,Cl⟩
  .rw[if_neg hc]at e;cases e
def SI.hold2(s:SI X g m r G σ H)(wg:Grow X.K G H G' H')(BT:i<m.length){p:Addr}{fp:List Addr}(un:∀b∈fp,G' b=none)(hS:∀b∈fp,H' b≠none)(hG:∀b∈fp,G b=none)(hd:∀(j:Nat) d a,r[j]? = some (some d)->m[j]? = some .ow->σ[j]? = some (some (V.ref a))->a∉fp):SI X (eS g H' fp i p) (m.set i .bw) (r.set i none) G' (σ.set i (some (V.ref p))) H':=by
 have s':=s.grow wg;have ld:∀b,b∉fp->(eS g H' (fp) i p).h0 b=g.h0 b:=fun b hb=>by show(if b∈fp then H' b else g.h0 b)=_;rw[if_neg hb]
 have Cl:∀b,b∈fp->(eS g H' (fp) i p).h0 b=H' b:=fun b hb=>by show(if b∈fp then H' b else g.h0 b)=_;rw[if_pos hb]
 have U:∀{j x},i≠j->(m.set i .bw)[j]? = some x->m[j]? = some x:=fun z h=>by rw[b_ z]at h;exact h
 have Y:∀{j d},(r.set i none)[j]? = some (some d)->i≠j/\r[j]? = some (some d):=fun{j d} h=>by
  by_cases z:i=j
  .subst z;rw[j_ (by rw[s.lr,<-s.lm];exact BT)]at h;cases h
  .rw[b_ z]at h;exact⟨z,h⟩
 refine⟨wg.ok,fun a o e=>?_,s'.ge,fun a h=>?_,by simpa using s.lm,by simpa using s.lr,fun j d h1 h2=>?_,fun j d h1 h2=>?_,fun j d h1 h2=>?_,fun j k a d e hjk h1 h2 m1 m2 z1 z2=>?_,fun j o hj hm'=>?_⟩
 .by_cases ha:a∈fp
  .rw[Cl a ha]at e;exact e
  .rw[ld a ha]at e;exact s'.old a o e
 .by_cases ha:a∈fp
  .rw[un a ha];show none=g.gh a;cases e:g.gh a with
  |none=>rfl
  |some d=>have:=s.ge a d e;rw[hG a ha]at this;cases this
  .rw[ld a ha]at h;exact s'.gf a h
 .obtain⟨z,h1⟩:=Y h1;rw[b_ z];exact s'.sh j d h1 (U z h2)
 .obtain⟨z,h1⟩:=Y h1;rw[b_ z];obtain⟨a,y1,y2,y3⟩:=s.ow j d h1 (U z h2);exact⟨a,y1,y2.mono wg,by rw[ld a (hd j d a h1 (U z h2) y1)];exact y3⟩
 .obtain⟨z,h1⟩:=Y h1;rw[b_ z];obtain⟨v,y1,y2⟩:=s'.bw j d h1 (U z h2);refine⟨v,y1,?_⟩;rcases y2 with y2|⟨a,ea,y2,y3⟩
  .exact .inl y2
  .refine .inr ⟨a,ea,y2,?_⟩;by_cases ha:a∈fp
   .rw[Cl a ha];exact hS a ha
   .rw[ld a ha];exact y3
 .obtain⟨z,h1⟩:=Y h1;obtain⟨hik,h2⟩:=Y h2;rw[b_ z]at z1;rw[b_ hik]at z2;exact s.dis j k a d e hjk h1 h2 (U z m1) (U hik m2) z1 z2
 .by_cases z:i=j
  .subst z;have Z:(if i=i then some (some (V.ref p),none)else g.hd i)=some o:=hj;rw[if_pos rfl]at Z;cases Z;exact⟨by rw[j_ (by rw[<-s.lm];exact BT)],fun d h=>absurd rfl (Y h).1⟩
  .have Z:(if j=i then some (some (V.ref p),none)else g.hd j)=some o:=hj;rw[if_neg (ZP z)]at Z;have:=s.lk j o Z (U z hm');exact⟨by rw[b_ z];exact this.1,fun d h=>this.2 d (by rw[b_ z]at h;exact h)⟩
def sS(s:SI X g m r G σ H)(wg:Grow X.K G H G' H')(Y:i<m.length){a0 a1 a2 p:Addr}{d0 d1 d2:List D}(o0:Own X.K G' H' a0 (.lst d0))(o1:Own X.K G' H' a1 (.lst d1))(o2:Own X.K G' H' a2 (.lst d2))(BT:a0≠a1)(Z:a0≠a2)(ld:a1≠a2)(n0:H a0=none)(n1:H a1=none)(n2:G a2=none/\g.h0 a2=none/\∀(j:Nat) d a,r[j]? = some (some d)->m[j]? = some .ow->σ[j]? = some (some (V.ref a))->a≠a2)(hp:H' p=none):jR X g i (m.set i .bw) (r.set i none) [d0,d1,d2] G' (σ.set i (some (V.ref p))) (upd H' p (.lst [V.ref a0,V.ref a1,V.ref a2])):=by
 have hne:∀{a d},Own X.K G' H' a d->p≠a:=fun o z=>by subst z;exact o.ob.isS hp
 have w2:=Grow.new wg.ok hp (.lst [V.ref a0,V.ref a1,V.ref a2]);have row:∀{a d},Own X.K G' H' a (.lst d)->gi X.K G' (upd H' p (.lst [V.ref a0,V.ref a1,V.ref a2])) a d:=fun{a d} o=>by cases o.ob with
 |lst e1 rs=>exact⟨_,by rw[bX (ZP (hne o))];exact e1,rs⟩
 have U:H p=none:=wg.back hp;have R:LRw X.K G' (upd H' p (.lst [V.ref a0,V.ref a1,V.ref a2])) p [a0,a1,a2] [d0,d1,d2]:=⟨cQ,by simp[hne o0,hne o1,hne o2,BT,Z,ld],fun b hb=>by
  simp only[e_,p_,or_false]at hb;rcases hb with rfl|rfl|rfl|rfl
  .exact wg.ok.isN hp
  .exact o0.un
  .exact o1.un
  .exact o2.un,.cons (row o0) (.cons (row o1) (.cons (row o2) .nil))⟩
 refine⟨p,_,R,fun b hb=>?_,s.hold2 (wg.trans w2) Y R.un (fun b hb=>R.isS hb) (fun b hb=>?_) fun j d a h1 h2 h3 hb=>?_,by rw[j_ Y]⟩ <;> simp only[e_,p_,or_false]at hb
 .rcases hb with rfl|rfl|rfl|rfl
  .exact s.new U
  .exact s.new n0
  .exact s.new n1
  .exact n2.2.1
 .rcases hb with rfl|rfl|rfl|rfl
  .exact s.gok.isN U
  .exact s.gok.isN n0
  .exact s.gok.isN n1
  .exact n2.1
 .obtain⟨a',y1,y2,y3⟩:=s.ow j d h1 h2;rw[h3]at y1;cases y1;rcases hb with rfl|rfl|rfl|rfl
  .exact y2.ob.isS U
  .exact y2.ob.isS n0
  .exact y2.ob.isS n1
  .exact n2.2.2 j d _ h1 h2 h3 rfl
variable{e0 e1 e2:Expr}{f0 f1 f2:FE}{x:Str}
def pT(i:Nat)(f0 f1 f2:FE):aL->Option (aL×List (List D)):=fun r=>match f0 r,f1 r,f2 r with
|.ok (.lst a),.ok (.lst b),.ok (.lst c)=>some (r.set i none,[a,b,c])
|_,_,_=>none
def QF{w':List (List D)}(h:pT i f0 f1 f2 r=some (r',w')):∃a b c,f0 r=.ok (.lst a)/\f1 r=.ok (.lst b)/\f2 r=.ok (.lst c)/\r'=r.set i none/\w'=[a,b,c]:=by
 unfold pT at h;split at h
 .rename_i a b c h0 h1 h2;cases h;exact⟨a,b,c,h0,h1,h2,rfl,rfl⟩
 .cases h
def PB(i:Nat)(Z:i<m.length)(hN:X.N.Nodup)(hi:X.N[i]? = some x)(hx:iN X.env.scope x)(h0:SO X g m e0 f0)(h1:SO X g m e1 f1)(h2:SO X g m e2 f2)(hs:Qaw (.List [e0,e1,e2] p2) (some (.Name x p3)) pos.line X.env=pure false:=by rfl)(hf:X.fn x=true\/X.env.scope.names.lookup x=some .local:=by first|exact .inl rfl|exact .inr rfl|assumption)(ld:f_ [e0,e1,e2] X.env=(false,eval e0 X.env)::f_ [e1,e2] X.env:=by rfl)(U:f_ [e1,e2] X.env=(false,eval e1 X.env)::f_ [e2] X.env:=by rfl)(Y:f_ [e2] X.env=(false,eval e2 X.env)::f_ [] X.env:=by rfl):PS X (.Assign [.Name x p3] (.List [e0,e1,e2] p2) pos) (m9 X g i m (m.set i .bw) (pT i f0 f1 f2)):=by
 refine PS.imp (uJ hN hi hx (Al (fO h0 (fO h1 (fO h2 iE Y) U) ld)) hs hf) fun D0 σ H ⟨r,G,si,r',w',e,k⟩=>⟨r,G,si,?_⟩
 obtain⟨d0,d1,d2,z0,z1,z2,rfl,rfl⟩:=QF e;rw[z0];intro a0 G1 H1 w1 n0 o0;refine⟨r,G1,si.grow w1,?_⟩;rw[z1];intro a1 G2 H2 w2 n1 o1;refine⟨r,G2,si.grow (w1.trans w2),?_⟩;rw[z2];intro a2 G3 H3 w3 n2 o2;refine⟨by rw[J_];simp,fun p hp=>k _ G3 _ ((w1.trans w2).trans w3).ge (sS si ((w1.trans w2).trans w3) Z ((o0.mono w2).mono w3) (o1.mono w3) o2 ?_ ?_ ?_ n0 (w1.back n1) ⟨?_,?_,?_⟩ hp)⟩
 .rintro rfl;exact o0.ob.isS n1
 .rintro rfl;exact(o0.mono w2).ob.isS n2
 .rintro rfl;exact o1.ob.isS n2
 .exact si.gok.isN ((w1.trans w2).back n2)
 .exact si.new ((w1.trans w2).back n2)
 .intro j d a h1 h2 h3 z;obtain⟨a',y1,y2,y3⟩:=si.ow j d h1 h2;rw[h3]at y1;cases y1;exact y2.ob.isS (by rw[z];exact(w1.trans w2).back n2)
def qh(i l:Nat)(f0 f1:FE):aL->Option (aL×List (List D)):=fun r=>match f0 r,f1 r,r[l]? with
|.ok (.lst a),.ok (.lst b),some (some (.lst c))=>some ((r.set l none).set i none,[a,b,c])
|_,_,_=>none
def RN{l:Nat}{w':List (List D)}(h:qh i l f0 f1 r=some (r',w')):∃a b c,f0 r=.ok (.lst a)/\f1 r=.ok (.lst b)/\r[l]? = some (some (.lst c))/\r'=(r.set l none).set i none/\w'=[a,b,c]:=by
 unfold qh at h;split at h
 .rename_i a b c h0 h1 h2;cases h;exact⟨a,b,c,h0,h1,h2,rfl,rfl⟩
 .cases h
def Qr(i l:Nat)(BT:i<m.length)(U:m[l]? = some .ow)(hN:X.N.Nodup)(hi:X.N[i]? = some x)(hx:iN X.env.scope x)(hl:X.N[l]? = some y)(hv:gA X.env.scope y)(h0:SO X g m e0 f0)(h1:SO X g m e1 f1)(hd:(y==("__debug__" : Str))=false:=by decide)(Cl:(y==("__classdict__" : Str))=false:=by decide)(hs:Qaw (.List [e0,e1,.Name y p1] p2) (some (.Name x p3)) pos.line X.env=pure false:=by rfl)(hf:X.fn x=true\/X.env.scope.names.lookup x=some .local:=by first|exact .inl rfl|exact .inr rfl|assumption)(Id:f_ [e0,e1,.Name y p1] X.env=(false,eval e0 X.env)::f_ [e1,.Name y p1] X.env:=by rfl)(Z:f_ [e1,.Name y p1] X.env=(false,eval e1 X.env)::f_ [.Name y p1] X.env:=by rfl)(ld:f_ [.Name y p1] X.env=(false,eval (.Name y p1) X.env)::f_ [] X.env:=by rfl):PS X (.Assign [.Name x p3] (.List [e0,e1,.Name y p1] p2) pos) (m9 X g i m (m.set i .bw) (qh i l f0 f1)):=by
 refine PS.imp (uJ hN hi hx (Al (fO h0 (fO h1 (fO (gP hl hv hd Cl) iE ld) Z) Id)) hs hf) fun D0 σ H ⟨r,G,si,r',w',e,k⟩=>⟨r,G,si,?_⟩
 obtain⟨d0,d1,d2,z0,z1,z2,rfl,rfl⟩:=RN e;obtain⟨a2,y1,y2,y3⟩:=si.ow l _ z2 U;have Y:l<r.length:=(i_.mp z2).1;have si':SI X g m (r.set l none) G σ H:=si.less (by simp) fun j d hj=>by
  by_cases hjl:l=j
  .subst hjl;rw[j_ Y]at hj;cases hj
  .rw[b_ hjl]at hj;exact hj
 rw[z0];intro a0 G1 H1 w1 n0 o0;refine⟨r,G1,si.grow w1,?_⟩;rw[z1];intro a1 G2 H2 w2 n1 o1;refine⟨_,y1,by rw[J_];simp,fun p hp=>k _ G2 _ (w1.trans w2).ge (sS si' (w1.trans w2) BT (o0.mono w2) o1 (y2.mono (w1.trans w2)) ?_ ?_ ?_ n0 (w1.back n1) ⟨y2.un,y3,?_⟩ hp)⟩
 .rintro rfl;exact o0.ob.isS n1
 .rintro rfl;exact y2.ob.isS n0
 .rintro rfl;exact y2.ob.isS (w1.back n1)
 .intro j d a h1 h2 h3 z;by_cases hjl:l=j
  .subst hjl;rw[j_ Y]at h1;cases h1
  .rw[b_ hjl]at h1;subst z;exact si.dis j l _ _ _ (ZP hjl) h1 z2 h2 U h3 y1
end
end DL
namespace DL
open PySem PySem.Spec PyProof.Rows L2 PySem.W PySem.Calls
def UN(K:W.Frag)(ro:Bool)(ms:List Md)(F:List D->Res D):Sp:=fun vs H Q E=>∃G ds,bW K G H/\ArgsOk K G H ms vs ds /\fin (F ds) (fun d=>∀v G' H',Grow K G H G' H'->RV ro K H G' H' v d->Q v H') fun x=>∀C od nm fs G' H',x=xD nm fs->XN K nm C->XF G' od fs->Grow K G H G' H'->E (.ref C) od H'
variable{X:Cx}{ps:List Str}{dvs:List V}{ds:List Value}{p pos:Pos}{e:Expr}{es:List Expr}
section
variable{k:Nat}{f:Addr}{fd:Zt}{sp:Sp}{x:Str}{t:TA}
def Ff(X:Cx)(σ:L2.St)(H:Hp)(E:XK):Prop:=∀pz s a cls od H' s',Inv X pz σ H s->Fly X.prog X.w X.stack H s H' a cls od s'->E cls od H'->X.xe (.ref a) s'
def Pw{pz:List (Addr×Obj)}{σ:L2.St}{H:Hp}{s:h_}{Q:VK}{E:XK}{us:List Value}{vs:List V}(F:FnOk X.prog X.w X.K X.mg X.base (yT X.prog X.w) k f fd ps sp)(hr:Room k X.A)(hb:hU X.K fd ps ds)(hd:aN dvs ds)(I:Inv X pz σ H s)(hx:Ff X σ H E)(r:aN vs us)(h:sp (vs++dvs) H Q E):w_ (B_ X.prog X.w) X.A (call (.ref f) us) (EP X pz σ Q) X.xe s:=by
 have r2:aN (vs++dvs) (us++ds):=r.append hd;have hl:(us++ds).length=ps.length:=by rw[<-r2.length];exact F.len _ _ _ _ h
 refine Qa8 (Qan (F.run X.A X.stack s H ⟨us,[]⟩ (us++ds) (vs++dvs) Q E hr I.env0 (hb s us I.kIn hl) r2 h) fun r s' hq=>?_);cases r with
|error e=>obtain⟨a,cls,H',od,rfl,fl,q⟩:=hq;exact hx pz s a cls od H' s' I fl q
|ok fl=>cases fl with
 |ret u=>exact I.after hq
 |next=>exact Y2 hq
 |brk=>exact Y2 hq
 |cont=>exact Y2 hq
def QP(F:FnOk X.prog X.w X.K X.mg X.base (yT X.prog X.w) k f fd ps sp)(hr:Room k X.A)(hg:Gl X x)(hm:X.mg x=some (.ref f))(hk:W.keepIn X.K (.ref f)=true)(hb:hU X.K fd ps ds)(hd:aN dvs ds)(ha:PA X (e::es) t)(z:(x==("__debug__" : Str))=false:=by decide)(he:f_ (e::es) X.env=(false,eval e X.env)::f_ es X.env:=by rfl)(U:(backTo pos (f_ es X.env)).any (·.1)=false:=by rfl):PE X (.Call (.Name x p) (e::es) [] pos) (fun σ H Q=>t σ H fun vs H1=>∃E,sp (vs++dvs) H1 Q E/\Ff X σ H1 E):=by intro pz s σ H Q I h;refine ZE (my I hg hm ?_ z);refine W.callWith_K (h₀:=X.base) I.ok.mod.kin hk (bL (ha pos pz s σ H _ I h) fun us s1 ⟨vs,H1,I1,r,E,q,px⟩=>⟨I1.kIn,?_⟩) he U;exact Pw F hr hb hd I1 px r q
end
section
variable{P:C_}{w:N_}{K:W.Frag}{mg:Str->Option Value}{base:Heap}
structure CalleeX(P:C_)(w:N_)(K:W.Frag)(mg:Str->Option Value)(base:Heap)(x:Str)(ps:List Str)(ds:List Value)(k:Nat)(ro:Bool)(ms:List Md)(F:List D->Res D):Prop where
 ex:∃f fd,mg x=some (.ref f)/\W.keepIn K (.ref f)=true/\hU K fd ps ds/\FnOk P w K mg base (yT P w) k f fd ps (UN K ro ms F)
end
variable{g:GE}{ro:Bool}{m mb ms:List Md}{fl:aL->Res (List D)}{F:List D->Res D}{C:Addr}
section
variable{k:Nat}{dds:List D}{x:Str}{np:Pos}
def je(fl:aL->Res (List D))(dds:List D)(F:List D->Res D):FE:=fun r=>(fl r).bind fun ds=>F (ds++dds)
def Py(c:CalleeX X.prog X.w X.K X.mg X.base x ps ds k false (ms++d_ dds.length .sh) F)(hr:Room k X.A)(hd:aN dvs ds)(Y:Paired Scl dvs dds)(ha:iM X g m (e::es) ms fl)(hg:Gl X x:=by rfl)(U:(x==("__debug__" : Str))=false:=by decide)(he:f_ (e::es) X.env=(false,eval e X.env)::f_ es X.env:=by rfl)(z:(backTo pos (f_ es X.env)).any (·.1)=false:=by rfl):SE X g m (.Call (.Name x p) (e::es) [] pos) (je fl dds F):=by
 obtain⟨fa,fd,h1,h2,h3,G1⟩:=c.ex;refine PE.imp (QP G1 hr hg h1 h2 h3 hd ha U he z) fun σ H Q ⟨r,G,si,q⟩=>⟨r,G,si,?_⟩
 cases ez:fl r with
|ok zs=>
  unfold je at q;rw[ez]at q;intro vs G' H' w' rs;refine⟨fun cls od H2=>∃C nm fs G2,cls=.ref C/\F (zs++dds)=.exc (xD nm fs)/\XN X.K nm C/\XF G2 od fs/\Grow X.K G' H' G2 H2,⟨G',zs++dds,w'.ok,rs.app Y,?_⟩,?_⟩
  .cases ef:F (zs++dds)with
  |ok d=>replace q:fin (F (zs++dds)) _ _:=q;rw[ef]at q;exact fun v G2 H2 w2 rv=>q v G2 H2 (w'.trans w2) rv
  |exc y=>exact fun C od nm fs G2 H2 hy xn xf w2=>⟨C,nm,fs,G2,rfl,by rw[hy],xn,xf,w2⟩
  |stuck=>replace q:fin (F (zs++dds)) _ _:=q;rw[ef]at q;exact q
  .intro pz s a cls od H2 s' I fl ⟨C,nm,fs,G2,hc,ef,xn,xf,w2⟩;subst hc;replace q:fin (F (zs++dds)) _ _:=q;rw[ef]at q;exact q pz (.ref a) s' G2 H2 (w'.trans w2) (fl.inv I) ⟨pz,s,H',a,C,od,nm,fs,rfl,rfl,xn,xf,I,fl⟩
|exc x=>unfold je at q;rw[ez]at q;exact q
|stuck=>unfold je at q;rw[ez]at q;exact q
end
def pK(f:FS):Prop:=∀r r',f r≠.nx r'
def On{m:List Md}{f:FE}:pK (retF m f):=by intro r r' h;unfold retF onE at h;cases e:f r with
|ok d=>rw[e]at h;cases h
|exc x=>rw[e]at h;cases h
|stuck=>rw[e]at h;cases h
def QD{s1 s2:FS}(h:pK s1):pK (seqF s1 s2):=by intro r r' e;unfold seqF at e;cases e1:s1 r with
|nx r1=>exact h r r1 e1
|rt d=>rw[e1]at e;cases e
|bk _=>rw[e1]at e;cases e
|ct _=>rw[e1]at e;cases e
|exc _ _=>rw[e1]at e;cases e
|stuck=>rw[e1]at e;cases e
def Iv{s1 s2:FS}(h:pK s2):pK (seqF s1 s2):=by intro r r' e;unfold seqF at e;cases e1:s1 r with
|nx r1=>rw[e1]at e;exact h r1 r' e
|rt d=>rw[e1]at e;cases e
|bk _=>rw[e1]at e;cases e
|ct _=>rw[e1]at e;cases e
|exc _ _=>rw[e1]at e;cases e
|stuck=>rw[e1]at e;cases e
section
variable{m1 m2:List Md}{sts:List Stmt}{f:FS}
def O7(h:fU X g ro mb m sts f m1)(hn:pK f)(hl:m2.length=m.length):fU X g ro mb m sts f m2:=by
 have ha:eZ m2=eZ m1:=by have e:m2.length=m1.length:=hl.trans h.1.symm;unfold eZ;rw[QbK,QbK,e]
 refine⟨hl,dq.imp h.2 fun D σ H ⟨r,G,si,q⟩=>⟨r,G,si,?_⟩⟩;cases e:f r with
|nx r'=>exact absurd e (hn r r')
|bk r'=>rw[e]at q;exact q
|ct r'=>rw[e]at q;exact q
|rt d=>rw[e]at q;exact q
|exc x r'=>rw[e]at q;unfold cV at q ⊢;rw[ha]at q;exact q
|stuck=>rw[e]at q;exact q
end
variable{E:Value->h_->Prop}{s:h_}
section
variable{M:Qee}{A:W_}{nm q nmT qT:Str}{N T NT:Addr}{bs bm bsT bmT:List Value}{hdct hdctT:Bool}{sn snT:List Str}{sub subT':List Value}{ab abT:Bool}{col colT:Option Bool}{dd ddT:Option Addr}{k0 k1 k2 k3 k5 t0 t1 t2 t3 t5:Option Value}{newId newIdT:String}
def T8{e:Addr}{oe:Obj}{Q:Bool->h_->Prop}(hC:s.heap.get? C=some (Z2 nm q C N bs bm hdct sn sub ab col dd k0 k1 k2 k3 k5 newId))(hT:s.heap.get? T=some (Z2 nmT qT T NT bsT bmT hdctT snT subT' abT colT ddT t0 t1 t2 t3 t5 newIdT))(he:s.heap.get? e=some oe)(hc:oe.cls=.ref C)(hb:bmT.contains (Value.type "BaseException")=true)(hq:Q ((Value.ref C::bm).contains (.ref T)) s):w_ M A (excMatches (.ref e) (.ref T)) Q E s:=by unfold excMatches;refine a_ (wpAny_isInstance (T := "type") (b:=false) ⟨_,hT,rfl⟩ (by rw[isSubtype_type];kernel_rfl) ?_);rw[if_neg k_];refine a_ (n_ ?_);simp only[Qal,QcS];refine a_ (a_ ?_);unfold isExcClass isType;refine a_ (a_ (a_ (QbW hT (n_ ?_))));rw[if_pos rfl];obtain⟨hh,hg,z,ht,ho⟩:=s;refine Qav hT ?_;rw[Qba,hb,QcB];rw[if_neg (by simp)];refine n_ (n_ ?_);refine a_ ?_;unfold typeOf;refine a_ (QbW he (n_ ?_));rw[hc];refine a_ (a_ (a_ (Qav hC ?_)));cases hm:(Value.ref C::bm).contains (Value.ref T)with
|true=>rw[hm]at hq;rw[if_pos rfl];exact n_ (n_ (n_ hq))
|false=>rw[hm]at hq;rw[if_neg k_];exact n_ (n_ (n_ hq))
end
def XO(K:W.Frag)(C:Addr)(bm:List Value):Prop:=∃N nm q bs hdct sn sub ab col dd k0 k1 k2 k3 k5 newId,K.lookup C=some (Z2 nm q C N bs bm hdct sn sub ab col dd k0 k1 k2 k3 k5 newId)
abbrev _root_.L2.Cx.held(X:Cx)(v:Value):Cx:={ X with A:=X.A.mark (some v),calm:=false,xe:=fun _ _=>False }
variable{pz:List (Addr×Obj)}{σ:L2.St}{H:Hp}
section
variable{H':Hp}{s':h_}{a:Addr}{od:Option Addr}
def Inv.held(I:Inv X pz σ H s)(v:Value):Inv (X.held v) pz σ H s:=⟨⟨I.ok.mod,I.ok.kind,I.ok.glob,I.ok.blt,I.ok.above,I.ok.inj,I.ok.has,I.ok.cab,(fun h=>nomatch h),I.ok.frames,I.ok.stk,I.ok.exf,I.ok.bs,I.ok.bsz,I.ok.noex,I.ok.exfs,I.ok.funs,I.ok.frf⟩,I.os,I.bare,I.base,I.loc,I.cell,I.free,I.freeC,I.pin,I.hok,I.len⟩
def Inv.unheld{v:Value}(hh:X.calm=true->X.A.handled=none)(I:Inv (X.held v) pz σ H s):Inv X pz σ H s:=⟨⟨I.ok.mod,I.ok.kind,I.ok.glob,I.ok.blt,I.ok.above,I.ok.inj,I.ok.has,I.ok.cab,hh,I.ok.frames,I.ok.stk,I.ok.exf,I.ok.bs,I.ok.bsz,I.ok.noex,I.ok.exfs,I.ok.funs,I.ok.frf⟩,I.os,I.bare,I.base,I.loc,I.cell,I.free,I.freeC,I.pin,I.hok,I.len⟩
def Fly.noted{E:Value->h_->Prop}{M:Qee}{Q:Unit->h_->Prop}(F:Fly X.prog X.w X.stack H s H' a (.ref C) od s')(I:Inv X pz σ H s)(U:X.stack=X.env::X.outer)(ld:X.env.frame=some X.env.locals)(q:∀h' oe vs tb ot ts,Inv X pz σ (upd H' a (.ext (nJ a C od))) { heap:=h',gens:=s'.gens,drawn:=s'.drawn,toks:=s'.toks,os:=s'.os }->H' a=none->h'.get? a=some oe->oe.cls=.ref C->oe.data=.fields vs->vs[1]? = some (.ref tb)->h'.get? tb=some ot->ot.data=.fields ts->ts[3]? = some Value.none ->Q () { heap:=h',gens:=s'.gens,drawn:=s'.drawn,toks:=s'.toks,os:=s'.os }):w_ M X.A (Qbx (.ref a) X.env) (fun _ s2=>w_ M X.A (QaI (.ref a) none) Q E s2) E s':=by
 obtain⟨B,hB,Cl,Z,⟨oe,vs,r1,r2,r3,r4,r5⟩,hd,hH⟩:=F.ex;have Id:H' a=none:=by cases e:H' a with
 |none=>rfl
 |some u=>obtain⟨o',z⟩:=hH a u e;rw[Cl]at z;cases z
 have LT:a∉dJ X.stack:=fun z=>by obtain⟨_,o,e1,nf⟩:=Z.mem z;rw[r1]at e1;cases e1;exact nf vs r4
 have hs1:1<vs.size:=by rcases r5 with z|⟨_,_,_,z,_⟩|⟨_,_,_,_,_,z,_⟩ <;> exact(Zu.mp z).1
 have LE:∀b o,s.heap.get? b=some o->b≠a:=fun b o e z=>by rw[z]at e;obtain⟨o',z2⟩:=hd a o e LT;rw[Cl]at z2;cases z2
 have fin:∀(T:Option Addr) h',(∀b,T=some b->B.get? b=none)->Lft (dJ (X.env::X.outer)) a oe vs T Value.none s'.heap h'->Q () { heap:=h',gens:=s'.gens,drawn:=s'.drawn,toks:=s'.toks,os:=s'.os }:=fun T h' hT l=>by
  rw[<-U]at l;have same:∀b o,(∃o',B.get? b=some o')->s'.heap.get? b=some o->h'.get? b=some o:=fun b o ⟨o',e⟩ h=>by refine l.keep b o (fun z=>?_) (fun z=>by rw[z,Cl]at e;cases e) (fun z=>by rw[hT b z]at e;cases e) h;rw[(Z.mem z).1]at e;cases e
  obtain⟨tb,ot,ts,t1,t2,t3,t4,t5,t6⟩:=l.obj;have KK:dH X.prog X.w H' h':=fun b u e=>by
   refine(F.hok b u e).stay (fun c v hc e1=>same c v ?_ e1) (fun _ z=>z) fun _ _ z=>z;rcases hc with hc|hc
   .rw[hc];exact hH b u e
   .exact hH c _ hc
  have hne:∀b u,H' b=some u->b≠a:=fun b u e z=>by rw[z,Id]at e;cases e
  have IO:dH X.prog X.w (upd H' a (.ext (nJ a C od))) h':=fun b u e=>by
   by_cases hb:b=a
   .subst hb;rw[cQ]at e;cases e;exact⟨⟨_,_,t3,r2,r3,rfl⟩,⟨_,t3⟩,fun h1 h2 ⟨oe',vs',z1,z2,z3,z4⟩ k=>⟨oe',vs',k _ z1,z2,z3,z4⟩⟩
   .rw[bX hb]at e;refine(KK b u e).stay (fun _ _ _ z=>z) (fun c z=>?_) fun c xs z=>?_
    .rw[bX (hne c _ z)];exact z
    .rw[bX (hne c _ z)];exact z
  have I2:Inv X pz σ (upd H' a (.ext (nJ a C od))) { heap:=h',gens:=s'.gens,drawn:=s'.drawn,toks:=s'.toks,os:=s'.os }:=by
   refine I.call' (ch:=[]) F.os ⟨fun b o e n f z=>?_,fun b o e n f z=>?_,fun b o e n z=>?_,fun b o e z=>?_,fun b xs e=>?_,fun b o u e=>?_,fun b ps e=>?_⟩ IO F.bare fun b z=>absurd z (by simp)
   .exact same b o (hd b o e f) (F.un.keep b o e n f z)
   .obtain⟨sl,e1⟩:=F.un.slot b o e n f z;obtain⟨_,o2,e2,nf⟩:=Z.mem f;rw[e1]at e2;cases e2;obtain⟨ST,e3⟩:=l.slot b _ e1 nf;exact⟨ST,e3⟩
   .rw[bX (LE b o e)];exact F.un.free b o e n z
   .obtain⟨o1,e1⟩:=F.un.there b o e z;by_cases f:b∈dJ X.stack
    .obtain⟨_,o2,e2,nf⟩:=Z.mem f;obtain⟨sl,e3⟩:=l.slot b _ e2 nf;exact⟨_,e3⟩
    .exact⟨o1,same b o1 (hd b o e f) e1⟩
   .have:=F.un.tups b xs e;rw[bX (hne b _ this)];exact this
   .have:=F.un.frzs b o u e;rw[bX (hne b _ this)];exact this
   .obtain⟨mo,this⟩:=F.un.tbls b ps e;exact⟨mo,by rw[bX (hne b _ this)];exact this⟩
  exact q h' _ _ tb ot ts I2 Id t3 r2 rfl (O_ hs1) t4 t5 t6
 have BT:w_ M X.A (Qbx (.ref a) X.env) (fun _ s2=>tH a s2.heap/\w_ M X.A (QaI (.ref a) none) Q E s2) E s'->w_ M X.A (Qbx (.ref a) X.env) (fun _ s2=>w_ M X.A (QaI (.ref a) none) Q E s2) E s':=fun z=>Y7 z (fun _ _ z=>z.2) fun _ _ z=>z;have Y:=Z;rw[U]at Y;rcases r5 with z|⟨T,oT,ts,z1,z2,z3,z4,z5,z6⟩|⟨l,T,oT,ts,zl,z1,z2,z3,z4,z5,z6⟩
 .exact BT (vK (T:=none) (by rw[I.ok.frames,U]) Y ld r1 r4 (fl:=none) (.inl ⟨z,rfl⟩) fun h' l=>fin none h' (fun b e=>nomatch e) l)
 .exact BT (vK (T:=some T) (by rw[I.ok.frames,U]) Y ld r1 r4 (fl:=none) (.inr (.inl ⟨T,oT,ts,rfl,z1,z3,z4,z5,z6⟩)) fun h' l=>fin (some T) h' (fun b e=>by cases e;exact z2) l)
 .have hl:l=X.env.locals:=by unfold m5 at zl;rw[U]at zl;exact(E_ (ld.symm.trans (show X.env.frame=some l from zl))).symm
  subst hl;exact BT (vK (T:=some T) (by rw[I.ok.frames,U]) Y ld r1 r4 (fl:=none) (.inr (.inr ⟨T,oT,ts,rfl,z1,z3,z4,z5,z6⟩)) fun h' l=>fin (some T) h' (fun b e=>by cases e;exact z2) l)
end
def SI.cx{X X':Cx}{g:GE}{m:List Md}{r:aL}{G:GH}{st:L2.St}{H:Hp}(s:SI X g m r G st H)(h:X'.K=X.K):SI X' g m r G st H:=by
 constructor
 .rw[h];exact s.gok
 .exact s.old
 .exact s.ge
 .exact s.gf
 .exact s.lm
 .exact s.lr
 .rw[h];exact s.sh
 .rw[h];exact s.ow
 .rw[h];exact s.bw
 .exact s.dis
 .exact s.lk
abbrev _root_.L2.Cx.tr(X:Cx)(ps:List (Addr×Obj))(E:Value->h_->Prop):Cx:={ X with pn:=ps,xe:=E }
section
variable{pins':List (Addr×Obj)}
def Inv.tr(I:Inv X pz σ H s)(E:Value->h_->Prop):Inv (X.tr (X.pn++pz) E) [] σ H s:=⟨⟨I.ok.mod,I.ok.kind,I.ok.glob,I.ok.blt,I.ok.above,I.ok.inj,I.ok.has,I.ok.cab,I.ok.hd,I.ok.frames,I.ok.stk,I.ok.exf,I.ok.bs,I.ok.bsz,I.ok.noex,I.ok.exfs,I.ok.funs,I.ok.frf⟩,I.os,I.bare,I.base,I.loc,I.cell,I.free,I.freeC,fun p hp=>I.pin p (by rw[Zl]at hp;exact hp),I.hok,I.len⟩
def Inv.untr(I:Inv (X.tr (X.pn++pz) E) pins' σ H s):Inv X pz σ H s:=⟨⟨I.ok.mod,I.ok.kind,I.ok.glob,I.ok.blt,I.ok.above,I.ok.inj,I.ok.has,I.ok.cab,I.ok.hd,I.ok.frames,I.ok.stk,I.ok.exf,I.ok.bs,I.ok.bsz,I.ok.noex,I.ok.exfs,I.ok.funs,I.ok.frf⟩,I.os,I.bare,I.base,I.loc,I.cell,I.free,I.freeC,fun p hp=>I.pin p (QaO _ hp),I.hok,I.len⟩
def SP.untr{D:Ends}{f:Flow}(h:SP (X.tr (X.pn++pz) E) [] D f s):SP X pz D f s:=by cases f with
|next=>obtain⟨σ',H',I,q⟩:=h;exact⟨σ',H',Inv.untr I,q⟩
|brk=>obtain⟨σ',H',I,q⟩:=h;exact⟨σ',H',Inv.untr I,q⟩
|cont=>obtain⟨σ',H',I,q⟩:=h;exact⟨σ',H',Inv.untr I,q⟩
|ret u=>obtain⟨v,σ',H',I,r,q⟩:=h;exact⟨v,σ',H',Inv.untr I,r,q⟩
end
def pM(K:W.Frag)(T:Addr)(hit:Str->Bool):Prop:=∀nm C,hit nm=true->XN K nm C->∃bm,XO K C bm/\(Value.ref C::bm).contains (.ref T)=true
def UB:D->Option Str
|.obj 0 ((_,.str nm)::_)=>some nm
|_=>none
structure XA(K:W.Frag)(C:Addr)(bm:List Value):Prop where
 ob:XO K C bm
 be:bm.contains (Value.type "BaseException")=true
 bo:bm.contains (Value.type "object")=true
 ga:Qb3 K (.ref C) "__getattribute__" = some (some (.builtin "BaseException.__getattribute__"))
 gn:Qb3 K (.ref C) "__getattr__" = some none
 gc:Qb3 K (.ref C) "__class__" = some (some (.builtin "object.__class__"))
 gg:specialIn K (.builtin "object.__class__") "__get__" = some (some (.builtin "getset_descriptor.__get__"))
 gt:takesIn K (.builtin "object.__class__")=some true
section
variable{k:Nat}{x:Str}
def Hb(c:CalleeX X.prog X.w X.K X.mg X.base x ps [] k false ms F)(hr:Room k X.A)(ha:iM X g m (e::es) ms fl)(hg:Gl X x:=by rfl)(z:(x==("__debug__" : Str))=false:=by decide)(he:f_ (e::es) X.env=(false,eval e X.env)::f_ es X.env:=by rfl)(U:(backTo pos (f_ es X.env)).any (·.1)=false:=by rfl):SE X g m (.Call (.Name x p) (e::es) [] pos) (je fl [] F):=Py (ms:=ms) (dds:=[]) (dvs:=[]) (ds:=[]) (by rw[show(d_ ([]:List D).length Md.sh)=[]from rfl,Zl];exact c) hr .nil .nil ha hg z he U
end
def XN.uniq{K:W.Frag}{nm:Str}{C c:Addr}(h:XN K nm C)(k:(K.all fun e=>match e.2.data with|.cls cd=>cd.name != nm || e.1==c|_=>true)=true):C=c:=by
 obtain⟨o,cd,h1,h2,h3⟩:=h;have hm:(C,o)∈(K:List (Addr×Obj)):=by
  have key:∀l:List (Addr×Obj),l.lookup C=some o->(C,o)∈l:=by
   intro l
   induction l with
  |nil=>intro h;cases h
  |cons q l ih=>
    intro h;rw[ZZ]at h;split at h
    .rename_i hb;have:=Z5 hb;cases h;rw[this];exact r_
    .exact m_ _ (ih h)
  exact key K h1
 have:=Ze.mp k _ hm;simp only[h2]at this;rw[h3]at this;simpa using this
end DL
section
namespace HT
open PySem PySem.Spec PyProof.Rows SetTable
variable{prog:C_}{w:N_}{A:W_}{E:Value->h_->Prop}{s:h_}
abbrev kh(w:N_):Bool:=! w.params.followText "set-order"
abbrev jo(led:Bool):Obj:={ cls:=.type "set",dict:=none,data:=.set #[] 0 (.fresh 0 0 led) }
def Op(a:Value){Q:Value->h_->Prop}(h:Q (.ref s.heap.objs.size) { s with heap:=s.heap.push (jo (kh w)) }):QbA (B_ prog w) A (.call (.builtin "set.__new__") ⟨[.type "set",a],[]⟩) (wants Q E) s:=by
 refine QcF ?_;show w_ _ A.in1 (checkBuiltinCall "set.__new__" ⟨[.type "set",a],[]⟩ >>= fun _=>again (.builtin "set.__new__" ⟨[.type "set",a],[]⟩)) _ _ s;refine a_ (wpAny_of_eq (F.newCall_set_1 a) (n_ ⟨Qdb F.plain_set_new _,QaG F.entry_set_new ?_⟩));rw[Qaq F.plain_set_new _];have z:=sub_set_self;obtain⟨hp,g,d,tk,os⟩:=s;unfold QaT.«set.__new__» Qer
 dsimp only
 wp_walk
 refine wpAny_askSetting (n_ ?_);simp only[newObj];exact a_ (wpAny_alloc (n_ (n_ h)))
abbrev i8(prog:C_)(w:N_)(h:Heap)(k:List Int)(b:Addr):Prop:=IsTupleKey (intKind prog w) h k b
def RW{k:List Int}{b:Addr}{Q:Bool->h_->Prop}(hk:i8 prog w s.heap k b)(h:Q true s):w_ (B_ prog w) A (QcT 8 (.ref b)) Q E s:=by
 have hT:=hk.typeIs;obtain⟨o,items,n,ho,hc,hd,hi⟩:=hk;have hall:∀v∈items.toList,∃i t,v=.int i t:=by
  clear ho hd hT hc h;generalize items.toList=l at hi
  induction hi with
 |nil=>intro v hv;simp at hv
 |@cons k' v' ks vs h1 _ ih=>
   intro v hv;rcases e_.mp hv with rfl|hv
   .cases v with
   |int i t=>exact⟨i,t,rfl⟩
   |_=>exact absurd h1 k_
   .exact ih v hv
 unfold QcT;refine a_ (wpAny_specialOf hT F.slot_tuple_hash.lookup ?_)
 dsimp only
 refine a_ (Z1 ho hd ?_);show w_ _ _ (forIn items _ _ >>= _) _ _ s;rw[<-Array.forIn_toList];refine a_ (wpAny_forIn_list _ (fun rest r s'=>r.1=none/\s'=s/\∀v∈rest,∃i t,v=.int i t) _ ?_ ?_ _ _ ⟨rfl,rfl,hall⟩)
 .rintro v rest r s' ⟨hr,rfl,hall⟩
  obtain⟨i,t,rfl⟩:=hall v r_;have e:QcT 7 (.int i t)=pure true:=by unfold QcT;rfl
  rw[e];refine a_ (n_ ?_);simp only[Bool.not_true,Qbb,if_false];exact n_ ⟨rfl,rfl,fun u z=>hall u (m_ _ z)⟩
 .rintro⟨r1,r2⟩ s' ⟨hr,rfl,_⟩
  simp only at hr;subst hr;exact n_ h
def EI{led:Bool}{n:Nat}{f:Nat->Int}{h:Int}{p:Probe}(hp:p.dummy=none):QdF (.fresh 0 0 led) f h (n+1) p=some (.empty p.j none):=by
 unfold QdF;have:QeG (.fresh 0 0 led) p.j=.empty:=by unfold QeG;simp[Z3,has]
 rw[this,<-hp]
def S1(h:Heap)(S:Addr):Prop:=∃es ep t,h.get? S=some { cls:=.type "set",dict:=none,data:=.set es ep t }/\es.size=1/\t.fits 1=true
def S1.keep{h h':Heap}{S:Addr}(x:S1 h S)(e:∀o,h.get? S=some o->h'.get? S=some o):S1 h' S:=by obtain⟨es,ep,t,X,M⟩:=x;exact⟨es,ep,t,e _ X,M⟩
def FD{h h':Heap}{k:List Int}{b:Addr}(x:i8 prog w h k b)(e:∀o,h.get? b=some o->h'.get? b=some o):i8 prog w h' k b:=by obtain⟨o,items,n,ho,z⟩:=x;exact⟨o,items,n,e o ho,z⟩
def KL{S b:Addr}{led:Bool}{kx:List Int}{hh:Int}{Q:Bool->h_->Prop}(hS:s.heap.get? S=some (jo led))(hx:i8 prog w s.heap kx b)(h:∀h' b',Qbg S s.heap h'->S1 h' S->Q b' { s with heap:=h' }):w_ (B_ prog w) A (setAddHashed S (.ref b) hh) Q E s:=by
 have hf:SetTable.fits (.fresh 0 0 led) (#[]:Array (Int×Value)).size=true:=rfl;unfold setAddHashed setAddHashedIn;refine ZJ (a_ (Qcg hS rfl hf ?_))
 dsimp only
 rw[show byScan (.ref b) #[]=false from rfl];simp only[Qbb,if_false];show w_ _ _ (setSearchFrom S (.ref b) hh true (99999+1) none >>= _) _ _ s;unfold setSearchFrom;refine a_ (a_ (Qcg hS rfl hf ?_))
 dsimp only
 rw[show SetTable.gaveWay (.fresh 0 0 led)=false from(show((7:Nat)%2==0)=false from rfl)];simp only[Qbb,if_false];unfold SetTable.probe;rw[show 10*turns (Z3 0 0 led).mask=(10*turns (Z3 0 0 led).mask-1)+1 from rfl,EI rfl];refine n_ ?_;generalize(Option.getD none (SetTable.probeStart (.fresh 0 0 led) hh)).j=j
 dsimp only
 refine a_ (Qcg hS rfl hf ?_)
 dsimp only
 have e1:SetTable.put (.fresh 0 0 led) j=({ Z3 0 0 led with place:=#[j] },0):=rfl;rw[e1]
 dsimp only
 have fin:w_ (B_ prog w) A (storeSet S #[(hh,.ref b)] { Z3 0 0 led with place:=#[j] } >>= fun _=>if (! false&&QdR { Z3 0 0 led with place:=#[j] })=true then setRelay S (SetTable.grown (0+1)) >>= fun _=>pure true else pure true) Q E s:=by
  refine a_ (wpAny_storeSet_of hS rfl ?_ (by rw[J_];show 1<=16777216;decide));rw[show QdR { Z3 0 0 led with place:=#[j] }=false from rfl,if_neg (by decide)];refine n_ (h _ true (QbQ s.heap S _) ⟨#[(hh,.ref b)],1,{ Z3 0 0 led with place:=#[j] },?_,rfl,rfl⟩)
  .have:=Y_ (Obj.putSet #[(hh,Value.ref b)] { Z3 0 0 led with place:=#[j] }) hS (by rw[putSet_of _ _ rfl];rfl);rw[putSet_of _ _ rfl]at this;exact this
 refine a_ (RW hx ?_);simp only[if_true];exact fin
section
variable{R:Qej->h_->Prop}{I:Addr}{fp wr:List Addr}{G:Array Qdp->Array Qdp->Prop}{P:Nat->Value->Prop}{St:Nat->h_->Prop}
def Mp(W:WalksS prog w A.in1 I fp wr G 1 P St){S b:Addr}{kx:List Int}{led:Bool}{s:h_}(BT:S∉fp)(Cl:∀v,P 0 v->v=.ref b)(hne:b∉wr)(hu:A.in1.units<Qag)(IO:St 0 s)(hS:s.heap.get? S=some (jo led))(hT:i8 prog w s.heap kx b)(hR:∀s',Moved (S::wr) G s s'->S1 s'.heap S->R (.ok (.ret .none)) s'):QbA (B_ prog w) A (.builtin "set.update.loop" ⟨[.ref S,.ref I],[]⟩) R s:=by
 have Z:S∉wr:=fun h=>BT (W.sub _ h);have U:∀b∈wr,b∈S::wr:=fun b hb=>m_ _ hb;refine QaG F.entry_set_update_loop ?_;rw[Qaq F.plain_set_update_loop _];show w_ _ A.in1 (QcL (.ref I) >>= _) _ _ s;refine a_ (W.item 0 s _ _ (by omega) IO fun v s' hP Id hm=>?_);cases Cl v hP;have KK:s'.heap.get? S=some (jo led):=hm.heap S _ Z hS;have ld:=FD hT (h':=s'.heap) fun o e=>hm.heap _ o hne e;show w_ _ A.in1 (Qam [Value.ref b] (setAdd S (.ref b)) >>= _) _ _ s';refine a_ (ZJ ?_);unfold setAdd;refine ZJ (a_ (wpAny_pyHash_tuple hu ld ?_));refine KL (s:={ s' with toks:=s'.toks+(kx.length+1) }) KK ld fun h' _ hsb LE=>?_;refine n_ ⟨Qdb F.plain_set_update_loop _,QaG F.entry_set_update_loop ?_⟩;rw[Qaq F.plain_set_update_loop _];have f1:=W.frame _ s' h' (s'.toks+(kx.length+1)) Id (QdS _ _) fun b hb o e=>by rw[hsb.2 b fun z:b=S=>BT (by rw[<-z];exact hb)];exact e
 show w_ _ A.in1 (QcL (.ref I) >>= _) _ _ _;refine a_ (W.done _ _ _ f1 fun s'' Y=>?_);refine n_ (hR s'' (Moved.trans W.gtrans ((hm.mono U).then_heap (QdS _ _) fun b o hb e=>?_) (Y.mono U)) (LE.keep fun o e=>Y.heap S o Z e));rw[hsb.2 b fun z:b=S=>hb (by rw[z];exact r_)];exact e
end
def i7{l b:Addr}{kx:List Int}{Q:Value->h_->Prop}(hh:A.handled=none)(hu:A.units+64<Qag)(hl:s.heap.IsList l #[.ref b])(hk:i8 prog w s.heap kx b)(h:∀(h':Heap)(tk:Nat),S1 h' s.heap.objs.size->(∀b o,s.heap.get? b=some o->h'.get? b=some o)->Q (.ref s.heap.objs.size) { s with heap:=h',toks:=tk }):w_ (B_ prog w) A (call (.type "set") [.ref l]) Q E s:=by
 obtain⟨c,tl,UX⟩:=F.called_set.mro;have UU:=F.called_set.made;have UW:=F.called_set.sub;refine Qa8 (QcF ?_);show w_ _ _ (callAny (.type "set") _) _ _ _;refine n_ ⟨Qb4 _ (by decide+kernel),QaG F.entry_type_call ?_⟩;rw[Around.under_plain (weight_type_call_type "set" [.ref l] []) rfl];have h1:=F.called_set.notType;have h2:=F.called_set.canCreate;have U1:=F.typeCall_set_1 (.ref l)
 repeat (any_goals (first|assumption|wp_step))
 refine Qan (Op (.ref l) (E:=E) (Q:=fun obj s₁=>obj=.ref s.heap.objs.size/\s₁={ s with heap:=s.heap.push (jo (kh w)) }) ⟨rfl,rfl⟩) fun r s₁ hr=>?_;cases r with
|error e=>exact hr
|ok fl=>cases fl with
 |next=>exact hr.elim
 |brk=>exact hr.elim
 |cont=>exact hr.elim
 |ret obj=>
   obtain⟨rfl,rfl⟩:=hr;have hS:(s.heap.push (jo (kh w))).get? s.heap.objs.size=some (jo (kh w)):=t_ _ rfl;have hT:QbB { s with heap:=s.heap.push (jo (kh w)) } (.ref s.heap.objs.size) "set" := ⟨_,hS,rfl⟩
   have U2:=F.called_set.init.lookup;have U3:=F.called_set.init.bind (.ref s.heap.objs.size)
   repeat (any_goals (first|assumption|wp_step))
   refine Qan (QbE (R:=wants (fun r s₂=>r=.none/\∃h' tk,s₂={ s with heap:=h',toks:=tk }/\S1 h' s.heap.objs.size/\∀b o,s.heap.get? b=some o->h'.get? b=some o) E) F.called_set.init.plain F.entry_set_init (check_set_init_1 hT ?_)) fun U0 s₂ U=>?_
   .obtain⟨ol,hol,hcl,nl,hdl⟩:=hl;obtain⟨UV,ld,UT,Y⟩:=ol;simp only at hcl hdl;subst hcl;subst hdl;have IO:(s.heap.push (jo (kh w))).get? l=some { cls:=.type "list",dict:=ld,data:=.seq #[.ref b] nl,slots:=Y }:=c_ _ hol;have UY:=F.sub_list_set;have UZ:=F.sub_list_frozenset;have hne:(Value.type "list" == Value.type "dict")=false:=by decide
    have BT:(s.heap.push (jo (kh w))).IsList l #[.ref b]:=⟨_,IO,rfl,nl,rfl⟩
    unfold QaT.«set.__init__» noKeywords Qd8;generalize LT:Qeg=PI
    wp_walk
    subst LT;refine Qbi BT (a_ (wpAny_runValue ?_));have Cl:l<s.heap.objs.size:=z_ hol;have ST:A.in1.in1.in1.handled=none:=by simp[hh]
    have Id:l≠(s.heap.push (jo (kh w))).objs.size:=by rw[Zj];exact G_ (Z6 Cl)
    have LE:s.heap.objs.size∉[(s.heap.push (jo (kh w))).objs.size,l]:=by rw[Zj];simp only[e_,p_,or_false,not_or];exact⟨G_ (ZT _),ZV Cl⟩
    have Tm:A.in1.in1.in1.units<Qag:=by simp only[Around.in1_units];omega
    have lb:b<s.heap.objs.size:=by obtain⟨o,_,_,e,_⟩:=hk;exact z_ e
    refine Mp ((Walks.list ST _ l Id #[.ref b]).toS) LE (fun v z=>?_) (fun z=>?_) Tm ⟨⟨_,t_ _ rfl,rfl,rfl⟩,BT.push _⟩ (c_ _ hS) (FD hk fun o e=>c_ _ (c_ _ e)) fun s' hm Z=>?_
    .cases z;rfl
    .have e:=H_.mp z;rw[Zj]at e;exact G_ (Z6 lb) e
    obtain⟨h',g',d',KK,US⟩:=s';have eg:g'=s.gens:=hm.gens;have ed:d'=s.drawn:=hm.drawn;have eo:US=s.os:=hm.os;subst eg;subst ed;subst eo;show w_ _ _ _ _ _ _;refine n_ ?_;show w_ _ _ (ret Value.none) _ _ _;refine n_ ⟨rfl,h',KK,rfl,Z,fun b o e=>?_⟩;have hb:b<s.heap.objs.size:=z_ e;refine hm.heap b o ?_ (c_ _ (c_ _ e));rw[Zj];simp only[e_,p_,or_false,not_or];exact⟨G_ hb,G_ (Z6 hb)⟩
   .cases U0 with
   |error e=>exact U
   |ok Ty=>cases Ty with
    |ret r=>
      obtain⟨rfl,h',tk,rfl,Z,hk'⟩:=U
      repeat (any_goals (first|assumption|wp_step))
      exact h _ _ Z hk'
    |next=>exact U.elim
    |brk=>exact U.elim
    |cont=>exact U.elim
end HT
namespace DL
open PySem PySem.Spec PyProof.Rows L2
def FL(X:Cx):List V->Hp->VK->Prop:=fun xs H Q=>∃p b,∃ns:List Int,xs=[.ref p]/\cy X.K H p [V.ref b]/\dy X.K H b (ns.map V.int)/\Q (.int 1) H
def Ip{prog:C_}{w:N_}:∀{ns:List Int}{its:List Value},aN (ns.map V.int) its->ItemsAre (intKind prog w) ns its
|[],_,r=>by cases r;exact .nil
|n::ns,_,r=>by cases r with
 |@cons _ u _ us r1 t=>
   obtain⟨t',rfl⟩:=(show ∃t,u=Value.int n t from r1)
   exact .cons (intKind_is _ _ _ _) (Ip t)
section
variable{X:Cx}{g:GE}{m:List Md}{a:Expr}{t:TA}{fl:aL->Res (List D)}{pos p pos2 p2:Pos}
def Su(hc:X.calm=true)(hu:X.A.units+64<Qag)(hg:Gl X "len")(hm:X.mg "len" = none)(Z:Gl X "set")(U:X.mg "set" = none)(ha:PA X [a] t)(he:f_ [.Call (.Name "set" p2) [a] [] pos2] X.env=(false,eval (.Call (.Name "set" p2) [a] [] pos2) X.env)::f_ [] X.env:=by rfl)(ld:f_ [a] X.env=(false,eval a X.env)::f_ [] X.env:=by rfl):PE X (.Call (.Name "len" p) [.Call (.Name "set" p2) [a] [] pos2] [] pos) (sv (FL X) t):=by
 intro pz s σ H Q I h;have hh:=I.ok.hd hc;refine ZE (lx I hg hm boot_len ?_ (by decide) (by decide));refine Qbu ?_ he rfl;rw[he];show w_ _ _ (spliced ((false,eval (.Call (.Name "set" p2) [a] [] pos2) X.env)::backTo pos (f_ [] X.env))) _ _ s;refine Qdh (bL (Q:=fun u s1=>∃(S:Addr)(H1:Hp),u=.ref S/\Inv X pz σ H1 s1/\HT.S1 s1.heap S/\Q (.int 1) H1) ?_ ?_)
 .refine ZE (lx I Z U boot_set ?_ (by decide) (by decide));refine ZI (bL (ha pos2 pz s σ H _ I h) fun us s1 ⟨vs,H1,I1,r1,q1⟩=>?_) ld rfl;obtain⟨p,b,ns,rfl,hq,hT,q⟩:=q1;obtain⟨u,rfl,rx⟩:=L2.cY r1;cases rx;obtain⟨its,rv,pl,hz⟩:=I1.list hq;obtain⟨u1,rfl,z⟩:=L2.cY rv;cases z;refine HT.i7 (b:=b) (kx:=ns) hh hu pl.isList ?_ fun h' tk hS kp=>⟨_,H1,rfl,I1.kept kp,hS,q⟩
  obtain⟨its,r',Y,_⟩:=I1.tuple hT;obtain⟨o,h1,h2,n,h3⟩:=(show s1.heap.IsTuple b its.toArray from Y)
  exact⟨o,its.toArray,n,h1,h2,h3,by simpa using Ip r'⟩
 .rintro u s1 ⟨S,H1,rfl,I1,⟨es,ep,t,hS,sz,hf⟩,q⟩
  refine Qdt ?_;refine call_len_set hS ⟨rfl,rfl,rfl⟩ rfl (by rw[sz];exact hf) ?_ ⟨.int 1,H1,I1.tok _,⟨_,by rw[sz];rfl⟩,q⟩;rw[sz];decide
def zO:List D->Option D
|[.lst [.tup ks]]=>(ko ks).map fun _=>.int 1
|_=>none
def Sh(hc:X.calm=true)(hu:X.A.units+64<Qag)(hg:Gl X "len")(hm:X.mg "len" = none)(U:Gl X "set")(z:X.mg "set" = none)(ha:iy X g m [a] fl)(he:f_ [.Call (.Name "set" p2) [a] [] pos2] X.env=(false,eval (.Call (.Name "set" p2) [a] [] pos2) X.env)::f_ [] X.env:=by rfl)(Y:f_ [a] X.env=(false,eval a X.env)::f_ [] X.env:=by rfl):SE X g m (.Call (.Name "len" p) [.Call (.Name "set" p2) [a] [] pos2] [] pos) (fC fl zO):=by
 refine ik (R:=FL X) ?_ (Su hc hu hg hm U z ha he Y);intro G H vs ds d Q gk rs e q;unfold zO at e;split at e
 .rename_i ks;cases ek:ko ks with
 |none=>rw[ek]at e;cases e
 |some ns=>rw[ek]at e;cases e;cases rs with
  |cons r1 t=>cases t;obtain⟨p,xs,rfl,hs,r2⟩:=r1.lst gk;cases r2 with
  |cons r3 t=>cases t;obtain⟨b,zs,rfl,hz,r4⟩:=r3.tup gk;cases PR gk r4 ek;exact⟨p,b,ns,rfl,hs,hz,q _ G H (Grow.refl gk) (.scl (.int _))⟩
 .cases e
end
end DL
end
namespace DL
open PySem PySem.Spec PyProof.Rows L2
def g9.get{K:W.Frag}{G:GH}{fs:List (Str×V)}{ds:List (Str×D)}{d:D}{f:Str}(h:g9 K G fs ds)(l:ds.lookup f=some d):∃v,fs.lookup f=some v/\RG K G v d:=by induction h with
|nil=>cases l
|@cons p q fs ds r _ ih=>
  obtain⟨a,v⟩:=p;obtain⟨b,d'⟩:=q;obtain⟨r1,r2⟩:=r;have r1:a=b:=r1;subst r1;rw[ZZ]at l ⊢;split at l
  .cases l;exact⟨v,rfl,r2⟩
  .exact ih l
def g9.no{K:W.Frag}{G:GH}{fs:List (Str×V)}{ds:List (Str×D)}{f:Str}(h:g9 K G fs ds)(l:ds.lookup f=none):fs.lookup f=none:=by induction h with
|nil=>rfl
|@cons p q fs ds r _ ih=>
  obtain⟨a,v⟩:=p;obtain⟨b,d'⟩:=q;obtain⟨r1,r2⟩:=r;have r1:a=b:=r1;subst r1;rw[ZZ]at l ⊢;split at l
  .cases l
  .exact ih l
def RB.ins{K:W.Frag}{G:GH}{H:Hp}{v:V}{k:Str}{nm:Str}{ds:List (Str×D)}(gk:bW K G H)(h:RB K G H v (.obj 2 ((k,.str nm)::ds))):∃a C dx fs,v=.ref a/\H a=some (.ins C dx fs)/\XN K nm C/\g9 K G fs ds/\RG K G v (.obj 2 ((k,.str nm)::ds)):=by
 rcases h with h|⟨a,rfl,h⟩
 .cases h with
 |scl s=>cases s
 |@ref a _ e=>have e':=e;cases gk _ _ e with
  |ins r n f=>exact⟨_,_,_,_,rfl,r,n,f,.ref e'⟩
 |kc k=>cases k
 .cases h.ob
def dh(K:W.Frag)(f:Str)(hit:Str->Bool):Prop:=∀nm C,hit nm=true->XN K nm C->Cls K C/\kn K C f
def eJ(hit:Str->Bool)(f:Str):D->Option D
|.obj 2 ((_,.str nm)::ds)=>if hit nm=true then ds.lookup f else none
|_=>none
variable{X:Cx}{g:GE}{m:List Md}{e o:Expr}{es:List Expr}{fl:aL->Res (List D)}{fe fo:FE}{f nm mt:Str}{C:Addr}{p pos apos:Pos}{hit:Str->Bool}
section
variable{ro:Bool}{mb:List Md}{a:Expr}{x:Str}{p2 np:Pos}
def gC(hx:dh X.K f hit)(he:SB X g m e fe)(hb:Qac e f X.env (eval e X.env)=eval e X.env:=by rfl):SE X g m (.Attribute e f pos) (f1 fe (eJ hit f)):=by
 refine PE.imp (ME he hb) fun σ H Q ⟨r,G,si,q⟩=>⟨r,G,si,cn (cw q) fun d q1 v G1 H1 w1 r1=>?_⟩
 obtain⟨d',e',q2⟩:=dQ q1;unfold eJ at e';split at e'
 .rename_i k nm ds;split at e'
  .rename_i hh;obtain⟨a,C,dx,fs,rfl,ha,xn,rf,_⟩:=RB.ins w1.ok r1;obtain⟨cl,na⟩:=hx nm C hh xn;obtain⟨v',l,rv⟩:=rf.get e';exact⟨a,C,dx,fs,v',rfl,ha,cl,na,l,q2 v' G1 H1 w1 rv⟩
  .cases e'
 .cases e'
end
def Oq{r:Res D}{q:D->Prop}{x:D->Prop}(h:fin (lN r) q x):fin r q fun _=>False:=by cases r with
|ok a=>exact h
|exc e=>exact(show False from h).elim
|stuck=>exact(show False from h).elim
def sB(K:W.Frag)(ro:Bool)(nm:Str)(ms:List Md)(F:List D->Res D):Sp:=fun vs H Q _=>∃G k fs ds,bW K G H/\ArgsOk K G H (.sh::ms) vs (.obj 2 ((k,.str nm)::fs)::ds)/\fin (F (.obj 2 ((k,.str nm)::fs)::ds)) (fun d=>∀v G' H',Grow K G H G' H'->RV ro K H G' H' v d->Q v H') fun _=>False
structure CalleeM(P:C_)(w:N_)(K:W.Frag)(mg:Str->Option Value)(base:Heap)(mt:Str)(ps:List Str)(k:Nat)(hit:Str->Bool)(ms:List Md)(F:List D->Res D):Prop where
 ex:∀nm C,hit nm=true->XN K nm C->Cls K C/\∃f fd,Meth K C mt f/\hU K fd ps []/\FnOk P w K mg base cH k f fd ps (sB K false nm ms F)
def No{K:W.Frag}{ro:Bool}{nm:Str}{ms:List Md}{F F':List D->Res D}(hF:∀k fs ds,F' (.obj 2 ((k,.str nm)::fs)::ds)=F (.obj 2 ((k,.str nm)::fs)::ds)){vs:List V}{H:Hp}{Q:VK}{E:XK}(h:sB K ro nm ms F' vs H Q E):jE K ro (.sh::ms) F vs H Q E:=by obtain⟨G,k,fs,ds,gk,rs,q⟩:=h;rw[hF]at q;exact⟨G,_,gk,rs,q⟩
def og(hit:Str->Bool)(F F':List D->Res D):List D->Res D
|.obj 2 ((k,.str nm)::fs)::ds=>if hit nm=true then F (.obj 2 ((k,.str nm)::fs)::ds)else F' (.obj 2 ((k,.str nm)::fs)::ds)
|_=>.stuck
variable{P:C_}{w:N_}{K:W.Frag}{mg:Str->Option Value}{base:Heap}{ps:List Str}{ms:List Md}{F:List D->Res D}
section
variable{k:Nat}{hit':Str->Bool}{F':List D->Res D}
def HS{nm:Str}{vs:List V}{H:Hp}{Q:VK}{E:XK}(hF:∀k fs ds,F' (.obj 2 ((k,.str nm)::fs)::ds)=F (.obj 2 ((k,.str nm)::fs)::ds))(h:sB K false nm ms F' vs H Q E):sB K false nm ms F vs H Q E:=by obtain⟨G,k,fs,ds,gk,rs,q⟩:=h;rw[hF]at q;exact⟨G,k,fs,ds,gk,rs,q⟩
def CalleeM.mono{j:Nat}(c:CalleeM P w K mg base mt ps j hit ms F)(h:j<=k):CalleeM P w K mg base mt ps k hit ms F:=⟨fun nm C hh xn=>let⟨cl,f,fd,m,b,fo⟩:=c.ex nm C hh xn;⟨cl,f,fd,m,b,fo.mono h⟩⟩
def CalleeM.or(c:CalleeM P w K mg base mt ps k hit ms F)(c':CalleeM P w K mg base mt ps k hit' ms F'):CalleeM P w K mg base mt ps k (fun nm=>hit nm || hit' nm) ms (og hit F F'):=by refine⟨fun nm C hh xn=>?_⟩;cases e:hit nm with
|true=>obtain⟨cl,f,fd,m,b,fo⟩:=c.ex nm C e xn;refine⟨cl,f,fd,m,b,fo.imp fun vs H Q E h=>HS (fun k fs ds=>?_) h⟩;show(if hit nm=true then _ else _)=_;rw[if_pos e]
|false=>rw[e,Qc9]at hh;obtain⟨cl,f,fd,m,b,fo⟩:=c'.ex nm C hh xn;refine⟨cl,f,fd,m,b,fo.imp fun vs H Q E h=>HS (fun k fs ds=>?_) h⟩;show(if hit nm=true then _ else _)=_;rw[if_neg (by rw[e];exact k_)]
end
def pR(hit:Str->Bool)(mt:Str)(fo:FE)(fl:aL->Res (List D))(F:List D->Res D):FE:=fun r=>(fo r).bind fun d=>match d with
|.obj 2 ((k,.str nm)::fs)=>if hit nm=true/\fs.lookup mt=none then(fl r).bind fun ds=>lN (F (.obj 2 ((k,.str nm)::fs)::ds))else .stuck
|_=>.stuck
section
variable{k:Nat}
def AC{pl:Sem Bool}(c:CalleeM X.prog X.w X.K X.mg X.base mt ps k hit ms F)(hr:Room k X.A)(ho:SE X g m o fo)(ha:iM X g m (e::es) ms fl)(U:f_ (e::es) X.env=(false,eval e X.env)::f_ es X.env:=by rfl)(Y:(backTo pos (f_ es X.env)).any (·.1)=false:=by rfl)(ht:eval (.Call (.Attribute o mt apos) (e::es) [] pos) X.env=(do
   let ov <-eval o X.env
   Qca apos.atName
   let(f,first) <-Qam [ov] (QcX ov mt pl)
   Qek pos f first (backTo pos (f_ (e::es) X.env)) (QbX pos (QaP [] X.env))):=by rfl):SE X g m (.Call (.Attribute o mt apos) (e::es) [] pos) (pR hit mt fo fl F):=by
 intro pz s σ H Q I ⟨r,G,si,q⟩;refine S0 (pl:=pl) ho I ⟨r,G,si,cn (cw q) fun d q1 v G1 H1 w1 r1=>?_⟩ ht;split at q1
 .rename_i k nm fs;split at q1
  .rename_i hh;obtain⟨a,C,dx,fv,rfl,z,xn,rf,rg⟩:=RB.ins w1.ok r1.rb;obtain⟨cl,f,fd,me,bd,Z⟩:=c.ex nm C hh.1 xn;refine⟨a,C,dx,fv,f,rfl,z,cl,me,rf.no hh.2,fun s1 I1=>?_⟩;refine W.callWith_K (first:=[.ref a]) (h₀:=X.base) I.ok.mod.kin me.kp (bL (ha pos pz s1 σ H1 (fun vs H2=>sB X.K false nm ms F (.ref a::vs) H2 Q (fun _ _ _=>False)) I1 ⟨r,G1,si.grow w1,?_⟩) fun us s2 ⟨vs,H2,I2,r2,q2⟩=>⟨I2.kIn,?_⟩) U Y
   .cases ez:fl r with
   |ok zs=>rw[ez,bind_ok]at q1;intro vs G2 H2 w2 rs;have q3:=Oq q1;exact⟨G2,_,fs,zs,w2.ok,.sh (rg.mono w2.ge) rs,cn q3 fun d k v G3 H3 w3 rv=>k v G3 H3 (w1.trans (w2.trans w3)) rv⟩
   |exc x=>rw[ez]at q1;exact XW.grow q1 w1
   |stuck=>rw[ez]at q1;exact q1
   .exact Gn (dvs:=[]) (ds:=[]) (us:=.ref a::us) (vs:=.ref a::vs) Z hr bd .nil uC I2 (.cons rfl r2) (by rw[Zl];exact q2)
  .exact q1.elim
 .exact q1.elim
end
structure MethAt(K:W.Frag)(nm mt qual:Str)(st:Stmt):Prop where
 ex:∃C f fd,(∀C',XN K nm C'->C'=C)/\Cls K C/\Meth K C mt f/\Fun K mt qual st f fd
def oP{nm mt qual:Str}{st:Stmt}{N ps:List Str}{k:Nat}{ms:List Md}{fs:FS}{m':List Md}(A:MethAt K nm mt qual st)(S:FnScope N ps (aE st))(U:ms.length+1=ps.length)(hb:∀(kV doc pm:Value)(an:Option Addr)(cdv ct:Value)(us:List Value),us.length=ps.length->Qbk (W.fnOf mt qual (aP st) (aO st) (aE st) .none kV doc pm an cdv ct) ⟨us,[]⟩=pure (ps.zip us))(z:∀(f:Addr)(cdv:Value)(A:W_)(outer:List Env)(s:h_)(H:Hp)(g:GE)(E:XK),Room k (A.deeper (QaX qual (aE st) s.heap.objs.size f cdv)) ->fU (bM cH P w K mg base N qual (aE st) f cdv A outer s H E).nox g false [] (iC N.length (.sh::ms)) (aO st) fs m'):CalleeM P w K mg base mt ps (k+1) (fun x=>x==nm) ms fun ds=>dU false (fs (c7 N.length ds)):=by obtain⟨C,f,fd,hC,cl,me,F⟩:=A.ex;refine⟨fun Y C' hh xn=>?_⟩;have e:=Z5 hh;subst e;have:=hC C' xn;subst this;exact⟨cl,f,fd,me,F.binds hb,(Ab F S (by rw[T_];exact U) (z f)).imp fun vs H Q E h=>No (fun _ _ _=>rfl) h⟩
def nY(f:Str)(v:D):List (Str×D)->List (Str×D)
|[]=>[(f,v)]
|(g,x)::r=>if g=f then(g,v)::r else(g,x)::nY f v r
def g9.put{K:W.Frag}{G:GH}{f:Str}{y:V}{d:D}(r:RG K G y d){fs:List (Str×V)}{ds:List (Str×D)}(h:g9 K G fs ds):g9 K G (L2.putF f y fs) (nY f d ds):=by induction h with
|nil=>exact .cons ⟨rfl,r⟩ .nil
|@cons p q fs ds r0 t ih=>
  obtain⟨a,v⟩:=p;obtain⟨b,d'⟩:=q;have r1:a=b:=r0.1;subst r1;show g9 K G (if a=f then(a,y)::fs else(a,v)::L2.putF f y fs) (if a=f then(a,d)::ds else(a,d')::nY f d ds);by_cases z:a=f
  .rw[if_pos z,if_pos z];exact .cons ⟨rfl,r⟩ t
  .rw[if_neg z,if_neg z];exact .cons r0 ih
def g9.mono{K:W.Frag}{G G':GH}{fs:List (Str×V)}{ds:List (Str×D)}(h:g9 K G fs ds)(ge:∀a d,G a=some d->G' a=some d):g9 K G' fs ds:=Paired.mono (fun _ _ r=>⟨r.1,r.2.mono ge⟩) h
def g9.len{K:W.Frag}{G:GH}{fs:List (Str×V)}{ds:List (Str×D)}(h:g9 K G fs ds):fs.length=ds.length:=by induction h with
|nil=>rfl
|cons _ _ ih=>rw[T_,T_,ih]
section
variable{r:aL}{G G':GH}{σ:L2.St}{H H':Hp}{x dx:Addr}{fs fs':List (Str×V)}
def SI.ins(s:SI X g m r G σ H)(e:H x=some (.ins C dx fs))(hg:g.h0 x=none)(hG:G x=none):SI X g m r G σ (upd H x (.ins C dx fs')):=by
 have ne:∀b d,G b=some d->b≠x:=fun b d h z=>by subst z;rw[hG]at h;cases h
 have own:∀{b:Addr}{d:D},Own X.K G H b d->b≠x:=fun{b d} o z=>by subst z;cases o.ob with
 |lst r _=>rw[e]at r;cases r
 |dic r _=>rw[e]at r;cases r
 have ow:∀{b:Addr}{d:D},Own X.K G H b d->Own X.K G (upd H x (.ins C dx fs')) b d:=fun{b d} o=>⟨o.un,o.ob.mono (fun _ _ z=>z) fun u hu=>by rw[bX (own o)];exact hu⟩
 refine⟨fun b d h=>(s.gok b d h).mono (fun _ _ z=>z) fun u hu=>by rw[bX (ne b d h)];exact hu,fun b u h=>?_,s.ge,s.gf,s.lm,s.lr,s.sh,fun i d h1 h2=>?_,fun i d h1 h2=>?_,s.dis,s.lk⟩
 .rw[bX (fun z=>by subst z;rw[hg]at h;cases h)];exact s.old b u h
 .obtain⟨a,q1,q2,q3⟩:=s.ow i d h1 h2;exact⟨a,q1,ow q2,q3⟩
 .obtain⟨v,q1,q2⟩:=s.bw i d h1 h2;refine⟨v,q1,?_⟩;rcases q2 with q2|⟨a,rfl,q2,q3⟩
  .exact .inl q2
  .exact .inr ⟨a,rfl,ow q2,q3⟩
end
abbrev FN:=aL->List (Str×D)->Res (List (Str×D))
structure NI(X:Cx)(g:GE)(m:List Md)(x C dx:Addr)(r:aL)(ds:List (Str×D))(G:GH)(σ:L2.St)(H:Hp):Prop where
 si:SI X g m r G σ H
 me:σ[0]? = some (some (V.ref x))
 ob:∃fs,H x=some (.ins C dx fs)/\g9 X.K G fs ds
 od:H dx=some (.own x)
 gx:G x=none
 hx:g.h0 x=none
 hd:g.h0 dx=none
def EE(X:Cx)(g:GE)(m:List Md)(x C dx:Addr)(r:aL)(G:GH)(σ:L2.St)(E:Ends):Res (List (Str×D))->Prop
|.ok ds=>∀G' H',bO G G'->NI X g m x C dx r ds G' σ H'->E.nx σ H'
|_=>False
def tN(X:Cx)(g:GE)(m:List Md)(C:Addr)(f:FN):TS:=fun D σ H=>∃r ds G x dx,NI X g m x C dx r ds G σ H/\EE X g m x C dx r G σ D (f r ds)
def sZ(X:Cx)(g:GE)(m:List Md)(C:Addr)(st:List Stmt)(f:FN):Prop:=dq X st (tN X g m C f)
def Kt{α:Type}(x:Res α)(k:α->Res (List (Str×D))):Res (List (Str×D)):=match x with
|.ok a=>k a
|_=>.stuck
section
variable{x0:Str}{pos':Pos}{sts:List Stmt}{s2:FN}
def nX:sZ X g m C [] fun _ ds=>.ok ds:=dq.imp AQ fun D σ H ⟨r,ds,G,x,dx,ni,q⟩=>q G H (bO.refl G) ni
def d6(f:Str)(fe:FE)(s2:FN):FN:=fun r ds=>Kt (fe r) fun d=>if ds.length<900 then s2 r (nY f d ds)else .stuck
def Ot{α:Type}{x:Res α}{k:α->Res (List (Str×DL.D))}{D:Ends}{r:aL}{a dx:Addr}{G:GH}{σ:L2.St}{Z:DL.D->Prop}(h:EE X g m a C dx r G σ D (Kt x k)):fin x (fun y=>EE X g m a C dx r G σ D (k y)) Z:=by cases x with
|ok a=>exact h
|exc e=>exact(show False from h).elim
|stuck=>exact h
def ly(cl:Cls X.K C)(na:kn X.K C f)(hN:X.N[0]? = some x0)(hv:gA X.env.scope x0)(he:SE X g m e fe)(h2:sZ X g m C sts s2)(hd:(x0==("__debug__" : Str))=false:=by decide)(Y:(x0==("__classdict__" : Str))=false:=by decide)(hs:Qaw e (some (.Attribute (.Name x0 p) f pos')) pos.line X.env=pure false:=by rfl):sZ X g m C (.Assign [.Attribute (.Name x0 p) f pos'] e pos::sts) (d6 f fe s2):=by
 refine dq.imp (o9 (MR (gP hN hv hd Y) he hs) h2) fun D σ H ⟨r,ds,G,x,dx,ni,q⟩=>⟨r,G,ni.si,cn (Ot q) fun d q1 v G1 H1 w1 r1=>?_⟩
 split at q1
 .rename_i hl;obtain⟨fs,hx,rf⟩:=ni.ob;have U:=w1.he _ _ hx;refine⟨_,ni.me,x,C,dx,fs,rfl,U,cl,na,by rw[rf.len];omega,r,nY f d ds,G1,x,dx,⟨(ni.si.grow w1).ins U ni.hx ?_,ni.me,⟨_,cQ,(rf.mono w1.ge).put r1⟩,?_,?_,ni.hx,ni.hd⟩,?_⟩
  .rw[w1.gf x (by rw[hx];simp)];exact ni.gx
  .rw[bX (fun z=>by have h1:=w1.he _ _ ni.od;rw[z,U]at h1;cases h1)];exact w1.he _ _ ni.od
  .rw[w1.gf x (by rw[hx];simp)];exact ni.gx
  .cases ez:s2 r (nY f d ds)with
  |ok zs=>rw[ez]at q1;exact fun G' H' le n'=>q1 G' H' (bO.trans w1.ge le) n'
  |exc e=>rw[ez]at q1;exact q1
  |stuck=>rw[ez]at q1;exact q1
 .exact(show False from q1).elim
end
abbrev jV:=List D->Res (List (Str×D))
def ng(K:W.Frag)(C:Addr)(nm:Str)(ms:List Md)(F:jV):Sp:=fun vs H Q _=>∃G H1 x dx us ds,H=upd (upd H1 dx (.own x)) x (.ins C dx [])/\H1 x=none/\H1 dx=none/\dx≠x/\vs=.ref x::us/\bW K G H1/\ArgsOk K G H1 ms us ds /\fin (F ds) (fun fd=>∀G' H',Grow K G H1 G' H'->G' x=some (iD nm fd)->Q .non H') fun _=>False
structure CalleeN(P:C_)(w:N_)(K:W.Frag)(mg:Str->Option Value)(base:Heap)(x nm:Str)(ps:List Str)(dv:List Value)(k:Nat)(ms:List Md)(F:jV):Prop where
 ex:∃C f fd,mg x=some (.ref C)/\Mk K C f/\hU K fd ps dv/\FnOk P w K mg base cH k f fd ps (ng K C nm ms F)
def dO(nm:Str)(fl:aL->Res (List D))(dds:List D)(F:jV):FE:=fun r=>(fl r).bind fun ds=>match F (ds++dds)with
|.ok fd=>.ok (iD nm fd)
|_=>.stuck
section
variable{ms':List Md}{x:Str}{k:Nat}{F:jV}{dvs:List V}{dv:List Value}{dds:List D}
def make_core{C:Addr}{vs:List V}{zs:List D}{G:GH}{H:Hp}{Q:VK}(gk:bW X.K G H)(rs:ArgsOk X.K G H ms vs zs)(z:Paired Scl dvs dds)(q:fin (match F (zs++dds)with|.ok fd=>Res.ok (iD nm fd)|_=>.stuck) (fun d=>∀v G' H',Grow X.K G H G' H'->RG X.K G' v d->Q v H') fun _=>False):∀a dx,H a=none->H dx=none->dx≠a->ng X.K C nm (ms++d_ dds.length .sh) F (.ref a::(vs++dvs)) (upd (upd H dx (.own a)) a (.ins C dx [])) (fun v H2=>v=.non/\Q (.ref a) H2) E0:=by intro a dx h1 h2 h3;refine⟨G,H,a,dx,vs++dvs,zs++dds,rfl,h1,h2,h3,rfl,gk,rs.app z,?_⟩;cases ez:F (zs++dds)with
|ok fd=>rw[ez]at q;exact fun G' H' w hg=>⟨rfl,q _ G' H' w (.ref hg)⟩
|exc e=>rw[ez]at q;exact(show False from q).elim
|stuck=>rw[ez]at q;exact(show False from q).elim
def fL(c:CalleeN X.prog X.w X.K X.mg X.base x nm ps dv k ms' F)(hr:Room (k+1) X.A)(ha:iM X g m (e::es) ms fl)(Y:ms'=ms++d_ dds.length .sh:=by rfl)(hg:Gl X x:=by rfl)(hd:aN dvs dv:=by exact .nil)(Z:Paired Scl dvs dds:=by exact .nil)(U:(x==("__debug__" : Str))=false:=by decide)(he:f_ (e::es) X.env=(false,eval e X.env)::f_ es X.env:=by rfl)(z:(backTo pos (f_ es X.env)).any (·.1)=false:=by rfl):SE X g m (.Call (.Name x p) (e::es) [] pos) (dO nm fl dds F):=by
 subst Y;obtain⟨C,f,fd,h1,h2,h3,h4⟩:=c.ex;refine PE.imp (Ph h2 h4 hr hg h1 h3 hd uC ha U he z) fun σ H Q ⟨r,G,si,q⟩=>⟨r,G,si,?_⟩
 unfold dO at q;cases ez:fl r with
|ok zs=>rw[ez,bind_ok]at q;intro vs G' H' w' rs;refine make_core w'.ok rs Z (cn (By q ?_) fun d k v G2 H2 w2 rv=>k v G2 H2 (w'.trans w2) rv);intro e he;split at he <;> cases he
|exc x=>rw[ez]at q;exact q
|stuck=>rw[ez]at q;exact q
end
structure MakeAt(K:W.Frag)(mg:Str->Option Value)(x nm qual:Str)(st:Stmt):Prop where
 ex:∃C f fd,mg x=some (.ref C)/\XN K nm C/\Cls K C/\Mk K C f/\Fun K "__init__" qual st f fd
def Qx{X:Cx}{N:List Str}{ms:List Md}{us:List V}{ds:List D}{G:GH}{H:Hp}{x C dx:Addr}(gk:bW X.K G H)(rs:ArgsOk X.K G H ms us ds)(hn:ms.length+1<=N.length)(h1:H x=none)(h2:H dx=none)(h3:dx≠x):NI X ⟨G,H,fun _=>none⟩ (iC N.length (.sh::ms)) x C dx (none::(ds.map some++d_ (N.length-(ds.length+1)) none)) [] G (L2.cm N (.ref x::us)) (upd (upd H dx (.own x)) x (.ins C dx [])):=by
 have s0:=Bh (X:=X) (N:=N) (ms:=.sh::ms) (vs:=.non::us) (ds:=.non::ds) gk (.sh (.scl .non) rs) (by simpa using hn);have e1:(L2.cm N (.ref x::us)).length=(L2.cm N (.non::us)).length:=by unfold L2.cm;simp
 have U:∀i:Nat,i≠0->(L2.cm N (.ref x::us))[i]? = (L2.cm N (.non::us))[i]?:=fun i hi=>by
  obtain⟨j,rfl⟩:∃j,i=j+1:=⟨i-1,by omega⟩
  unfold L2.cm;simp
 have er:∀i d,(none::(ds.map some++d_ (N.length-(ds.length+1)) none):aL)[i]? = some (some d)->i≠0/\(c7 N.length (.non::ds))[i]? = some (some d):=fun i d h=>by cases i with
 |zero=>simp at h
 |succ j=>refine⟨by omega,?_⟩;unfold c7;simpa using h
 have w:Grow X.K G H G (upd (upd H dx (.own x)) x (.ins C dx [])):=by
  have hx:upd H dx (.own x) x=none:=by rw[bX h3.symm];exact h1
  have he:∀b o,H b=some o->upd (upd H dx (.own x)) x (.ins C dx []) b=some o:=fun b o hb=>by rw[bX (fun z=>by rw[z,h1]at hb;cases hb),bX (fun z=>by rw[z,h2]at hb;cases hb)];exact hb
  exact⟨fun b d hb=>(gk b d hb).mono (fun _ _ z=>z) (fun u hu=>he b u hu),he,fun _ _ z=>z,fun _ _=>rfl⟩
 have s1:SI X ⟨G,H,fun _=>none⟩ (iC N.length (.sh::ms)) (none::(ds.map some++d_ (N.length-(ds.length+1)) none)) G (L2.cm N (.ref x::us)) H:=by
  refine⟨s0.gok,s0.old,s0.ge,s0.gf,by rw[e1];exact s0.lm,?_,fun i d h hm=>?_,fun i d h hm=>?_,fun i d h hm=>?_,fun i j a d e Y hi hj=>?_,fun i o h=>(nomatch h)⟩
  .rw[e1,<-s0.lr];unfold c7;simp
  .obtain⟨z,q⟩:=er i d h;rw[U i z];exact s0.sh i d q hm
  .obtain⟨z,q⟩:=er i d h;rw[U i z];exact s0.ow i d q hm
  .obtain⟨z,q⟩:=er i d h;rw[U i z];exact s0.bw i d q hm
  .obtain⟨z,q⟩:=er i d hi;obtain⟨z',q'⟩:=er j e hj;rw[U i z,U j z'];exact s0.dis i j a d e Y q q'
 refine⟨s1.grow w,?_,⟨[],cQ,.nil⟩,by rw[bX h3,cQ],gk.isN h1,h1,h2⟩;unfold L2.cm;simp
def OR{x qual nm:Str}{st:Stmt}{f C:Addr}{fd:Zt}{N ps:List Str}{k:Nat}{ms:List Md}{fn:FN}(F:Fun K "__init__" qual st f fd)(xn:XN K nm C)(S:FnScope N ps (aE st))(Y:ms.length+1=ps.length)(U:∀(cdv:Value)(A:W_)(outer:List Env)(s:h_)(H:Hp)(g:GE)(E:XK),Room k (A.deeper (QaX qual (aE st) s.heap.objs.size f cdv)) ->sZ (bM cH P w K mg base N qual (aE st) f cdv A outer s H E).nox g (iC N.length (.sh::ms)) C (aO st) fn):FnOk P w K mg base cH (k+1) f fd ps (ng K C nm ms fun ds=>fn (none::(ds.map some++d_ (N.length-(ds.length+1)) none)) []):=by
 refine F.ok S (fun vs H Q E ⟨G,H1,a,dx,us,ds,_,_,_,_,hv,gk,rs,q⟩=>by rw[hv,T_,rs.len.1];exact Y) fun cdv A outer s H vs Q E hr h=>?_;obtain⟨G,H1,a,dx,us,ds,rfl,h1,h2,h3,rfl,gk,rs,q⟩:=h;have Z:ps.length<=N.length:=by have:=congrArg QcN S.pre;rw[Qad]at this;omega
 refine⟨_,U cdv A outer s _ ⟨G,H1,fun _=>none⟩ E hr,_,[],G,a,dx,Qx gk rs (by omega) h1 h2 h3,?_⟩;cases ez:fn (none::(ds.map some++d_ (N.length-(ds.length+1)) none)) []with
|ok fd=>simp only[ez]at q;have q':=q;intro G' H' le ni;obtain⟨fs,ho,rf⟩:=ni.ob;have w:=ni.si.grown;refine q' (gset G' a (iD nm fd)) H' ⟨ni.si.gok.gset ni.gx (.ins ho xn rf),w.he,fun b d hb=>ii ni.gx b d (w.ge b d hb),fun b hb=>?_⟩ fW;rw[ib (fun z=>hb (by rw[z];exact h1))];exact w.gf b hb
|exc e=>simp only[ez]at q;exact q
|stuck=>simp only[ez]at q;exact q
def oO{x nm qual:Str}{st:Stmt}{N ps:List Str}{k:Nat}{ms:List Md}{fn:FN}(A:MakeAt K mg x nm qual st)(S:FnScope N ps (aE st))(U:ms.length+1=ps.length)(hb:∀(kV doc pm:Value)(an:Option Addr)(cdv ct:Value)(us:List Value),us.length=ps.length->Qbk (W.fnOf "__init__" qual (aP st) (aO st) (aE st) .none kV doc pm an cdv ct) ⟨us,[]⟩=pure (ps.zip us))(z:∀(C:Addr),XN K nm C->∀(f:Addr)(cdv:Value)(A:W_)(outer:List Env)(s:h_)(H:Hp)(g:GE)(E:XK),Room k (A.deeper (QaX qual (aE st) s.heap.objs.size f cdv)) ->sZ (bM cH P w K mg base N qual (aE st) f cdv A outer s H E).nox g (iC N.length (.sh::ms)) C (aO st) fn):CalleeN P w K mg base x nm ps [] (k+1) ms fun ds=>fn (none::(ds.map some++d_ (N.length-(ds.length+1)) none)) []:=by obtain⟨C,f,fd,h1,xn,cl,mk,F⟩:=A.ex;exact⟨C,f,fd,h1,mk,F.binds hb,OR (x:=x) F xn S U (z C xn f)⟩
end DL
namespace DL
open PySem PySem.Spec PyProof.Rows L2 PySem.W PySem.Calls
def fX(K:W.Frag)(C:Addr):Option (List Value×Str):=match K.lookup C with
|some ⟨.type "type",_,.cls cd,sl⟩=>(match cd.mro,sl.toList with
 |.ref C'::bm,[_,_,_,_,some (.builtin _),_]=>if (C'==C && ! cd.hasDel)=true then some (bm,cd.name)else none
 |_,_=>none)
|_=>none
def zQ{K:W.Frag}{C:Addr}{bm:List Value}{nm:Str}(h:fX K C=some (bm,nm)):XO K C bm/\XN K nm C:=by
 unfold fX at h;split at h
 .rename_i dict cd sl hk;split at h
  .rename_i C' bm' k0 k1 k2 k3 n k5 hm hs;split at h
   .rename_i hc;cases h;simp only[P_,beq_iff_eq,Qch]at hc;obtain⟨rfl,hd⟩:=hc;refine⟨?_,_,cd,hk,rfl,rfl⟩;obtain⟨U,bs,mro,ns,q,hdct,sn,sub,ab,col,z⟩:=cd;have e1:mro=Value.ref C'::bm:=hm;have e2:z=false:=hd;subst e1 e2;have e3:sl = #[k0,k1,k2,k3,some (Value.builtin n),k5]:=by cases sl with
    |mk l=>exact congrArg Array.mk hs
    subst e3;exact⟨_,_,_,_,_,_,_,_,_,_,_,_,_,_,_,_,hk⟩
   .cases h
  .cases h
 .cases h
def eN(K:W.Frag)(nm:Str)(c:Addr):Bool:=K.all fun e=>match e.2.data with
|.cls cd=>cd.name != nm || e.1==c
|_=>true
structure CF(K:W.Frag)(nm:Str)(c:Addr)(bm:List Value):Prop where
 xa:XA K c bm
 xn:XN K nm c
 un:eN K nm c=true
def tw{K:W.Frag}{nm:Str}{c:Addr}{bm:List Value}(o:fX K c=some (bm,nm))(be:bm.contains (Value.type "BaseException")=true)(bo:bm.contains (Value.type "object")=true)(ga:Qb3 K (.ref c) "__getattribute__" = some (some (.builtin "BaseException.__getattribute__")))(gn:Qb3 K (.ref c) "__getattr__" = some none)(gc:Qb3 K (.ref c) "__class__" = some (some (.builtin "object.__class__")))(gg:specialIn K (.builtin "object.__class__") "__get__" = some (some (.builtin "getset_descriptor.__get__")))(gt:takesIn K (.builtin "object.__class__")=some true)(un:eN K nm c=true):CF K nm c bm:=⟨⟨(zQ o).1,be,bo,ga,gn,gc,gg,gt⟩,(zQ o).2,un⟩
def CF.eq{K:W.Frag}{nm:Str}{c C:Addr}{bm:List Value}(f:CF K nm c bm)(h:XN K nm C):C=c:=XN.uniq h f.un
def KG{K:W.Frag}{T:Addr}{hit:Str->Bool}(l:List (Str×Addr×List Value))(h:∀q∈l,CF K q.1 q.2.1 q.2.2/\(Value.ref q.2.1::q.2.2).contains (.ref T)=true)(hh:∀nm,hit nm=true->∃q∈l,q.1=nm):pM K T hit:=by intro nm C hn xn;obtain⟨q,hq,rfl⟩:=hh nm hn;obtain⟨f,hc⟩:=h q hq;have:=f.eq xn;subst this;exact⟨_,f.xa.ob,hc⟩
end DL
namespace DL
open PySem PySem.Spec PyProof.Rows L2
def jk(s:Stmt)(j:Nat):Stmt:=match s with
|.ClassDef _ _ _ b _ _ _ _ _ _ _=>b.getD j s
|_=>s
def sD:D->Bool
|.non=>true
|.bl _=>true
|.int _=>true
|.str _=>true
|_=>false
def RB.sc{K:W.Frag}{G:GH}{H:Hp}{v:V}{d:D}(h:RB K G H v d)(hd:sD d=true):RG K G v d:=by
 rcases h with h|⟨a,rfl,h⟩
 .exact h
 .cases h.ob with
 |lst _ _=>cases hd
 |dic _ _=>cases hd
def sF(m:List Md)(f:FE):FS:=fun r=>onE m r (f r) fun d=>if sD d=true then .rt d else .stuck
section
variable{X:Cx}{g:GE}{m mb:List Md}{e:Expr}{f:FE}{pos:Pos}
def NZ(he:SB X g m e f):SS X g false mb m (.Return (some e) pos) (sF m f) m:=by
 refine⟨rfl,PS.imp (Aq he) fun D σ H ⟨r,G,si,q⟩=>⟨r,G,si,cn (gE si rfl q) fun d q v G' H' w rv=>?_⟩⟩;split at q
 .rename_i hd;exact q v G' H' (si.grow w).grown (rv.sc hd)
 .exact q.elim
end
def gF(K:W.Frag)(C:Addr)(nm:Str):Bool:=match K.lookup C with
|some o=>(match o.data with
 |.cls cd=>cd.name==nm
 |_=>false)
|none=>false
def Mr{K:W.Frag}{C:Addr}{nm:Str}(h:gF K C nm=true):XN K nm C:=by
 unfold gF at h;split at h
 .rename_i o e;split at h
  .rename_i cd ed;exact⟨o,cd,e,ed,Z5 h⟩
  .cases h
 .cases h
structure OC(K:W.Frag)(nm:Str)(C:Addr):Prop where
 un:∀C',XN K nm C'->C'=C
 xn:XN K nm C
 cl:Cls K C
def nP{K:W.Frag}{nm:Str}{C:Addr}(x:gF K C nm=true)(u:eN K nm C=true)(a:W.plainGet K C Qbc=true)(b:W.hasDictIn K C=true)(c:W.plainOver K C=true)(d:W.findIn K (.ref C) "__setattr__" = some (some (.builtin "object.__setattr__"))):OC K nm C:=⟨fun C' h=>XN.uniq h u,Mr x,⟨a,b,c,d⟩⟩
def lS{K:W.Frag}{f:Str}{hit:Str->Bool}(l:List (Str×Addr))(h:∀q∈l,OC K q.1 q.2/\kn K q.2 f)(hh:∀nm,hit nm=true->nm∈l.map (·.1)):dh K f hit:=fun nm C hn xn=>by obtain⟨q,hq,rfl⟩:=V_.mp (hh nm hn);obtain⟨o,na⟩:=h q hq;rw[o.un C xn];exact⟨o.cl,na⟩
def nR{K:W.Frag}{nm mt qual:Str}{st:Stmt}{C f:Addr}{fd:Zt}(o:OC K nm C)(h1:W.findIn K (.ref C) mt=some (some (.ref f)))(h2:W.isFn K (.ref f)=true)(F:Fun K mt qual st f fd):MethAt K nm mt qual st:=⟨C,f,fd,o.un,o.cl,⟨h1,h2,F.kp⟩,F⟩
def nQ{K:W.Frag}{mg:Str->Option Value}{x nm qual:Str}{st:Stmt}{C f:Addr}{fd:Zt}(o:OC K nm C)(hm:mg x=some (.ref C))(h1:W.makesIn K C=true)(h2:W.findIn K (.ref C) "__init__" = some (some (.ref f)))(h3:W.isFn K (.ref f)=true)(h4:W.keepIn K (.ref C)=true)(F:Fun K "__init__" qual st f fd):MakeAt K mg x nm qual st:=⟨C,f,fd,hm,o.xn,o.cl,⟨h1,h2,h3,h4⟩,F⟩
end DL
namespace DL
open PySem PySem.Spec PyProof.Rows L2 PySem.W PySem.Calls
section
variable{X:Cx}{pz:List (Addr×Obj)}{σ:L2.St}{H H':Hp}{s s':h_}{a C T:Addr}{od:Option Addr}
def Q3{xT:Str}{bm bmT:List Value}{np ld:Pos}{LE:Stmt}{U:List Stmt}{t:TS}{D:Ends}{rest:List ExceptHandler}(F:Fly X.prog X.w X.stack H s H' a (.ref C) od s')(I:Inv X pz σ H s)(IO:X.stack=X.env::X.outer)(KK:X.env.frame=some X.env.locals)(LT:X.calm=true)(cT:X.mg xT=some (.ref T))(oT:XO X.K T bmT)(BT:bmT.contains (Value.type "BaseException")=true)(oC:XO X.K C bm)(hit:(Value.ref C::bm).contains (.ref T)=true)(hg:Gl X xT)(hs:dq (X.held (.ref a)) (LE::U) t)(q:H' a=none->t { nx:=D.nx,rt:=D.rt } σ (upd H' a (.ext (nJ a C od))))(Id:(xT==("__debug__" : Str))=false:=by decide):w_ (B_ X.prog X.w) X.A (Qbx (.ref a) X.env) (fun _ s₂=>w_ (B_ X.prog X.w) X.A (QaI (.ref a) none) (fun _ ST=>w_ (B_ X.prog X.w) X.A (handleBy (.ref a) X.env (.ExceptHandler (some (.Name xT np)) none (LE::U) ld::rest)) (SP X pz D) X.xe ST) X.xe s₂) X.xe s':=by
 refine F.noted I IO KK fun h' oe vs tb ot ts I1 Cl e1 e2 e3 e4 e5 e6 e7=>?_;refine wpAny_handleBy_cons ?_ (by intro z;cases z);have Ih:=Inv.held I1 (.ref a);refine codeAny_handlers_test (my (X:=X.held (.ref a)) Ih hg cT ?_ Id);obtain⟨N1,UZ,q1,UY,UU,U4,sub1,UV,Tm,UT,a0,a1,a2,a3,a5,U3,z1⟩:=oC;obtain⟨N2,UX,q2,U2,hd2,U0,US,UW,Ty,U5,c0,c1,c2,c3,c5,U1,z2⟩:=oT;refine T8 (I1.kIn _ _ z1) (I1.kIn _ _ z2) e1 e2 BT ?_;rw[hit,if_pos rfl];refine codeAny_handlers_suite ?_;unfold QaI;refine a_ (Y5 e1 e3 e4 ?_);rw[if_pos (by rfl)];have Z:3<ts.size:=(Zu.mp e7).1;refine Qaz e5 e6 Z ?_;have I2:Inv X pz σ (upd H' a (.ext (nJ a C od))) { heap:=h'.update tb (X_ fun v=>v.setIfInBounds 3 Value.none),gens:=s'.gens,drawn:=s'.drawn,toks:=s'.toks,os:=s'.os }:=by
  refine I1.kept fun b u e=>?_;show(h'.update tb _).get? b=some u;by_cases hb:b=tb
  .subst hb;have Y:h'.get? b=some ot:=e5;have:u=ot:=by rw[show h'.get? b=some u from e]at Y;cases Y;rfl
   subst this;have mf:X_ (fun v=>v.setIfInBounds 3 Value.none) u=u:=by
    obtain⟨c,d,da,sl⟩:=u;have:da=.fields ts:=e6;subst this;show({ cls:=c,dict:=d,data:=.fields (ts.setIfInBounds 3 Value.none),slots:=sl }:Obj)=_;have:ts.setIfInBounds 3 Value.none=ts:=by
     refine Qdj fun j=>?_;by_cases hj:3=j
     .subst hj;rw[O_ Z,e7]
     .rw[Array.getElem?_setIfInBounds_ne hj]
    rw[this]
   have nf:(X_ (fun v=>v.setIfInBounds 3 Value.none) u).isFreed=false:=by obtain⟨c,d,da,sl⟩:=u;have:da=.fields ts:=e6;subst this;rfl
   have:=Y_ (X_ fun v=>v.setIfInBounds 3 Value.none) Y nf;rw[mf]at this;exact this
  .rw[Zo _ _ _ _ hb];exact e
 refine Y7 (hs pz _ σ _ _ (Inv.held I2 (.ref a)) (q Cl)) (fun f s4 h4=>?_) fun _ _ z=>Y2 z;cases f with
|next=>obtain⟨σ',H2,I4,k⟩:=h4;exact⟨σ',H2,Inv.unheld I.ok.hd I4,k⟩
|brk=>obtain⟨σ',H2,I4,k⟩:=h4;exact k.elim
|cont=>obtain⟨σ',H2,I4,k⟩:=h4;exact k.elim
|ret u=>obtain⟨v,σ',H2,I4,rv,k⟩:=h4;exact⟨v,σ',H2,Inv.unheld I.ok.hd I4,rv,k⟩
end
def iU(m1:List Md)(hit:Str->Bool)(fb fh:FS):FS:=fun r=>match fb r with
|.nx r'=>.nx (forget m1 r')
|.rt d=>.rt d
|.exc x r'=>(match UB x with
 |some nm=>if hit nm=true then(match fh r' with
  |.nx r2=>.nx r2
  |.rt d=>.rt d
  |_=>.stuck)else .stuck
 |none=>.stuck)
|_=>.stuck
section
variable{X:Cx}{g:GE}{ro:Bool}{m m1 mb:List Md}{T:Addr}{fb fh:FS}
def N3{xT:Str}{bmT:List Value}{np Z pos:Pos}{body U:List Stmt}{BT:Stmt}{hit:Str->Bool}(LE:X.stack=X.env::X.outer)(LT:X.env.frame=some X.env.locals)(ld:X.calm=true)(cT:X.mg xT=some (.ref T))(oT:XO X.K T bmT)(Id:bmT.contains (Value.type "BaseException")=true)(hk:pM X.K T hit)(hg:Gl X xT)(hb:∀ps E,fU (X.tr ps E) g ro [] m body fb m1)(hs:∀a,fU (X.held (.ref a)) g ro [] (eZ m1) (BT::U) fh (eZ m1))(IO:(xT==("__debug__" : Str))=false:=by decide):SS X g ro mb m (.Try body [.ExceptHandler (some (.Name xT np)) none (BT::U) Z] [] [] pos) (iU m1 hit fb fh) (eZ m1):=by
 have Cl:(eZ m1).length=m.length:=by rw[eZ,q_];exact(hb [] fun _ _=>False).1
 refine⟨Cl,fun pz s σ H D I ⟨r,G,si,q⟩=>?_⟩;refine wpAny_Try_except ?_;generalize hE:(fun(e:Value)(s₁:h_)=>w_ (B_ X.prog X.w) X.A (Qbx e X.env) (fun _ s₂=>w_ (B_ X.prog X.w) X.A (QaI e none) (fun _ Ty=>w_ (B_ X.prog X.w) X.A (handleBy e X.env [.ExceptHandler (some (.Name xT np)) none (BT::U) Z]) (SP X pz D) X.xe Ty) X.xe s₂) X.xe s₁)=E';have key:cV (X.tr (X.pn++pz) E') g ro m1 [] G { nx:=D.nx,rt:=D.rt } (fb r):=by unfold iU at q;cases e:fb r with
 |nx r'=>rw[e]at q;exact fun σ' G' H' le si'=>q σ' G' H' le (SI.cx (X':=X) si' rfl).forget
 |rt d=>rw[e]at q;exact q
 |bk r'=>rw[e]at q;exact q.elim
 |ct r'=>rw[e]at q;exact q.elim
 |stuck=>rw[e]at q;exact q
 |exc x r'=>
   rw[e]at q;intro pins' ev s' σ' G' H' le si' I' ex;obtain⟨Tm,s1,H1,a,C,od,nm,ds,rfl,rfl,xn,xf,I1,fl⟩:=ex;show E' (.ref a) s';rw[<-hE];replace q:cV X g ro (eZ m1) mb G D (if hit nm=true then(match fh r' with
   |.nx r2=>.nx r2
   |.rt d=>.rt d
   |_=>.stuck)else .stuck):=q
   split at q
   .rename_i hh;obtain⟨bm,oC,hc⟩:=hk nm C hh xn;refine Q3 (D:=D) fl (Inv.untr I1) LE LT ld cT oT Id oC hc hg (hs a).2 (fun Y=>?_) IO;have ST:G' a=none:=si'.gok.isN Y;have w:Grow X.K G' H' (gset G' a (xD nm ds)) (upd H' a (.ext (nJ a C od))):=by
     have ge:∀b d,G' b=some d->gset G' a (xD nm ds) b=some d:=fun b d e=>by
      have:b≠a:=by rintro rfl;rw[ST]at e;cases e
      rw[ib this];exact e
     refine⟨fun b d e=>?_,fun b o e=>?_,ge,fun b h=>?_⟩
     .by_cases hb:b=a
      .subst hb;rw[fW]at e;cases e;exact .exc cQ xn (xf.mono ge)
      .rw[ib hb]at e;exact(si'.gok b d e).mono ge fun o z=>by rw[bX hb];exact z
     .have:b≠a:=by rintro rfl;rw[Y]at e;cases e
      rw[bX this];exact e
     .have:b≠a:=by rintro rfl;exact h Y
      exact ib this
    have KK:=(SI.cx (X':=X) si' rfl).grow w;refine⟨_,_,SI.cx KK rfl,?_⟩;cases e2:fh r' with
   |nx r2=>rw[e2]at q;exact fun σ2 G2 H2 le2 si3=>q σ2 G2 H2 (le.trans (bO.trans w.ge le2)) (SI.cx si3 rfl)
   |rt d=>rw[e2]at q;exact q
   |bk _=>rw[e2]at q;exact q.elim
   |ct _=>rw[e2]at q;exact q.elim
   |exc _ _=>rw[e2]at q;exact q.elim
   |stuck=>rw[e2]at q;exact q.elim
   .exact q.elim
 refine Y7 ((hb (X.pn++pz) E').2 [] s σ H _ (Inv.tr I E') ⟨r,G,SI.cx si rfl,key⟩) (fun f s1 h1=>?_) fun e s1 h1=>?_
 .have h2:=SP.untr h1;cases f with
 |next=>obtain⟨σ',H',I',k⟩:=h2;exact QaF ⟨σ',H',I',k⟩
 |brk=>obtain⟨σ',H',I',k⟩:=h2;exact k.elim
 |cont=>obtain⟨σ',H',I',k⟩:=h2;exact k.elim
 |ret u=>exact h2
 .exact h1
end
end DL
namespace DL
open PySem PySem.Spec PyProof.Rows L2 PySem.W
def tu{α:Type}(P:α->Prop):List α->Prop
|[]=>True
|a::l=>P a/\tu P l
abbrev QL:=List (Str×Addr×List Value)
end DL
namespace DL
open PySem PySem.Spec PyProof.Rows L2 PySem.W PySem.Calls
abbrev eM(C t:Addr)(od:Option Addr):Obj:={ cls:=.ref C,dict:=od,data:=.fields #[.ref t,.none,.none,.none,.bool false,.none] }
variable{prog:C_}{w:N_}{A:W_}{E:Value->h_->Prop}{h:Heap}{gs:Array Qdp}{os:OsState}{nm ql:Str}{C N:Addr}{bm sub:List Value}{sn:List Str}{ab:Bool}{col:Option Bool}{dd:Option Addr}{k0 k1 k2 k3 k5:Option Value}{nw:String}
section
variable{dr:Drawn}{tk:Nat}
variable{fI:Addr}{bs bB:List Value}{hdct:Bool}{B ini:String}{mN:Str->Option Value}{us:List Value}{oI:Obj}
def Pc{Q:Fin->h_->Prop}(XF:ExcBaseFacts B nw ini bB)(T:QcZ h bB bm)(hC:h.get? C=some (Z2 nm ql C N bs bm hdct sn sub ab col dd k0 k1 k2 k3 k5 nw))(hn:h.Ns N mN)(hi:mN "__init__" = some (.ref fI))(hf:h.get? fI=some oI)(Y:oI.cls=.type "function")(hz:us.length<=sizeLine)(hq:∀h' e,Qes h h' e (.ref C) us->w_ (B_ prog w) A (call (.ref fI) (.ref e::us)) (fun r s'=>r=.none/\Q (.done (.ret (.ref e))) s') E ⟨h',gs,dr,tk,os⟩):w_ (B_ prog w) A (QaT.«type.__call__» ⟨.ref C::us,[]⟩) Q E ⟨h,gs,dr,tk,os⟩:=by
 repeat (first
  |with_reducible refine QaM hC ?_
  |with_reducible refine wpAny_madeBy_exc hC ?_
  |wp_step)
 refine codeAny_call_builtin_code (Qb4 _ XF.quiet) (wpAny_check_new_subT XF T hC (codeAny_exc_new_subT XF T hC ?_ hz));show w_ _ _ _ _ _ _;have hk:∀b o,h.get? b=some o->((h.push { cls:=.type "tuple",data:=.seq us.toArray }).push (eM C h.objs.size none)).get? b=some o:=fun b o e=>c_ _ (c_ _ e);have hg:((h.push { cls:=.type "tuple",data:=.seq us.toArray }).push (eM C h.objs.size none)).get? (h.objs.size+1)=some (eM C h.objs.size none):=by heap_get
 have Cl:((h.push { cls:=.type "tuple",data:=.seq us.toArray }).push (eM C h.objs.size none)).get? h.objs.size=some { cls:=.type "tuple",data:=.seq us.toArray }:=c_ _ (QdG rfl rfl);have U:=hk _ _ hC;have ld:=hk _ _ hf;have BT:=hn.keeps hk;have T1:=T.keeps hk;have Z:(Value.ref C::bm).contains (.ref C)=true:=by simp
 unfold Qet
 repeat (first
  |with_reducible refine QaM hg ?_
  |(with_reducible refine Qav U ?_;rw[Z])
  |wp_step)
 show w_ _ _ (typeLookup (.ref C) _) _ _ _;refine wpAny_typeLookup_tail U BT T1 XF.mroIs XF.init.lookup ?_;rw[hi];refine ZJ (a_ ?_);unfold bindSpecial;refine a_ (Qao (T := "function") ⟨_,ld,Y⟩ ?_);rw[if_pos (by decide)];refine n_ (a_ (Y7 (hq _ (h.objs.size+1) ⟨hk,QaN (QcM _),h.objs.size,hg,QaN (y_ _),Cl⟩) (fun r s' hr=>?_) fun _ _ z=>z));obtain⟨rfl,hQ⟩:=hr
 wp_walk
 exact hQ
def Rk{Q:Value->h_->Prop}(XF:ExcBaseFacts B nw ini bB)(T:QcZ h bB bm)(hC:h.get? C=some (Z2 nm ql C N bs bm hdct sn sub ab col dd k0 k1 k2 k3 k5 nw))(hn:h.Ns N mN)(hi:mN "__init__" = some (.ref fI))(hf:h.get? fI=some oI)(z:oI.cls=.type "function")(hz:us.length<=sizeLine)(hq:∀h' e,Qes h h' e (.ref C) us->w_ (B_ prog w) (A.under (.builtin "type.__call__" ⟨.ref C::us,[]⟩)) (call (.ref fI) (.ref e::us)) (fun r s'=>r=.none/\Q (.ref e) s') E ⟨h',gs,dr,tk,os⟩):w_ (B_ prog w) A (call (.ref C) us) Q E ⟨h,gs,dr,tk,os⟩:=by
 have f1:=tc_lookup;have f2:=tc_bind (.ref C);have hT:QbB ⟨h,gs,dr,tk,os⟩ (.ref C) "type" := ⟨_,hC,rfl⟩
 refine Qa8 (QcF ?_);show w_ _ _ (callAny (.ref C) _) _ _ _
 repeat (any_goals (first
  |assumption
  |with_reducible refine QaM hC ?_
  |wp_step))
 exact⟨rfl,codeAny_call_builtin_at (Qb4 _ (by decide+kernel)) entry_typeCall (wpAny_check_type_call_sub hC (Pc XF T hC hn hi hf z hz fun h' e hm=>hq h' e hm))⟩
def Qg{M:Qee}{s:h_}{x:Sem Value}{env:Env}{Q:Flow->h_->Prop}(hb:bm.contains (.type "BaseException")=true)(hh:A.handled=none)(hx:w_ M A x (fun v s1=>∃e t od,v=.ref e/\s1.heap.get? C=some (Z2 nm ql C N bs bm hdct sn sub ab col dd k0 k1 k2 k3 k5 nw)/\s1.heap.get? e=some (eM C t od)/\E (.ref e) s1) E s):w_ M A (raiseStmt env (some x) none) Q E s:=by
 have U:(Value.ref C::bm).contains (.type "BaseException")=true:=by rw[Qba,hb,QcB]
 unfold raiseStmt;refine a_ (Y7 hx (fun v s1 h1=>?_) fun _ _ z=>z);obtain⟨e,t,od,rfl,hC,he,hE⟩:=h1;obtain⟨hp,g,d,tk,os⟩:=s1
 repeat (first
  |with_reducible refine QaM he ?_
  |with_reducible refine QaM hC ?_
  |(with_reducible refine Qav hC ?_;rw[U])
  |wp_step)
 exact wpAny_raiseNew_none hh hE
end
def Tb{self:Value}{bm:List Value}{h:Heap}(T:QcZ h ij bm):refuseLoop self "__setattr__" bm=pure ():=by induction T with
|base=>exact Qck.passes self
|own _ _ _ _ ih=>rw[refuseLoop_ref];exact ih
variable{K:W.Frag}
section
variable{dr:Drawn}{tk:Nat}
variable{e t:Addr}{bs:List Value}{name:Str}{v:Value}
def En{Q:Unit->h_->Prop}(kin:K.In h)(hC:h.get? C=some (Z2 nm ql C N bs bm true sn sub ab col dd k0 k1 k2 k3 k5 nw))(T:QcZ h ij bm)(he:h.get? e=some (eM C t none))(g0:Qb3 K (.ref C) "__setattr__" = some (some (.builtin "object.__setattr__")))(g1:Qb3 K (.ref C) name=some none)(hq:∀h' dx Cl,h.get? dx=none->h'.get? e=some (eM C t (some dx))->h'.Ns1 dx (fun y=>if y=name then some v else none)->(∀b o,b≠e->h.get? b=some o->h'.get? b=some o)->Q () ⟨h',gs,dr,Cl,os⟩):w_ (B_ prog w) A (setAttr (.ref e) name v) Q E ⟨h,gs,dr,tk,os⟩:=by
 have f3:=Qck.slot.bind (.ref e);have KK:(Value.ref C::bm).contains (.type "object")=true:=by rw[Qba,IL T (by decide+kernel),QcB]
 have L0:Looks (B_ prog w) h (Qet (.ref e) (.type "object")) true:=by intro A Q E s k q;unfold Qet;refine a_ (Qby (k _ _ he) ?_);obtain⟨hh,a1,a2,a3,a4⟩:=s;exact Qav (k _ _ hC) (by rw[KK];exact q)
 unfold setAttr callSpecial? specialOf;refine a_ (wpAny_mkText ?_);refine a_ (a_ (a_ (Qby he (looks_findIn kin g0 _ _ _ _ (fun b o e=>e) ?_))));refine ZJ ?_;rw[f3];refine a_ (n_ (a_ (Qa8 ?_)));have SF:=PySem.F.store_object;refine QbE SF.slot.plain SF.entry (@check_slot (B_ prog w) _ _ ⟨h,gs,dr,tk+1,os⟩ "object.__setattr__" "object" "__setattr__" (.ref e) [.str name tk,v] [] _ SF.kind SF.split L0 (SF.args (.ref e) (.str name tk) v) ?_);show w_ _ _ (QaT.«object.__setattr__» ⟨[.ref e,.str name tk,v],[]⟩) _ _ _;rw[osa_eq,refuse_eq];refine a_ (a_ (Qby he (a_ (wpAny_mroOf_exc hC ?_))));rw[refuseLoop_ref,Tb T];refine n_ (a_ (Qby he (a_ (looks_findIn kin g1 _ _ _ _ (fun b o e=>e) ?_))));refine a_ ?_;show w_ _ _ (pure none) _ _ _;refine n_ ?_;have Y:(h.push { cls:=.type "dict",data:=.dict #[] }).get? e=some (eM C t none):=c_ _ he;have z:e≠h.objs.size:=G_ (z_ he);refine a_ (n_ (a_ (a_ (QbW he (a_ ?_)))));unfold classData;refine a_ (Qeh hC (n_ ?_));refine a_ (wpAny_alloc' (a_ (wpAny_update' Y (n_ ?_))));have ld:((h.push { cls:=.type "dict",data:=.dict #[] }).update e fun o=>{ o with dict:=some h.objs.size }).get? h.objs.size=some { cls:=.type "dict",data:=.dict #[] }:=(Zo _ _ _ _ z.symm).trans (QdG rfl rfl);have BT:((h.push { cls:=.type "dict",data:=.dict #[] }).update e fun o=>{ o with dict:=some h.objs.size }).Ns h.objs.size (fun _=>none):=⟨_,#[],_,ld,rfl,fun e he=>absurd he (by simp),fun _=>rfl⟩
 show w_ _ _ (Qbz h.objs.size (.str name tk) name v) _ _ _;unfold Qbz QdT;refine a_ (n_ (a_ (wpAny_nsSet1 (Qdr BT) fun h' hn' hs=>?_)));obtain⟨oD,ST,LT,IO,LE,Id⟩:=hn'.count (Within.cons name v Within.nil);refine a_ (wpAny_lookBehind IO (by rw[LE];exact pastItsLine_dict (Y8 Id (by rw[T_,Qd3,J_];omega))) ?_);have Z:h'.get? e=some (eM C t (some h.objs.size)):=(hs.2 e z).trans (Y_ _ Y rfl);refine n_ (show w_ _ _ (pure (some Value.none)) _ _ _ from n_ (n_ (hq h' h.objs.size _ (QaN (y_ _)) Z hn' fun b o hb U=>?_)));exact(hs.2 b (G_ (z_ U))).trans ((Zo _ _ _ _ hb).trans (c_ _ U))
def OA{x:Value}{Q:Value->h_->Prop}(hC:h.get? C=some (Z2 nm ql C N bs bm true sn sub ab col dd k0 k1 k2 k3 k5 "ValueError.__new__"))(T:QcZ h ij bm)(he:h.get? e=some (eM C t none))(hq:∀h' t',h'.get? e=some (eM C t' none)->(∀b o,b≠e->h.get? b=some o->h'.get? b=some o)->Q .none ⟨h',gs,dr,tk,os⟩):w_ (B_ prog w) A (call (.builtin "ValueError.__init__") [.ref e,x]) Q E ⟨h,gs,dr,tk,os⟩:=by
 have XF:=Qb5;refine Qa8 (QbE XF.init.plain XF.initEntry (wpAny_check_init_subT XF T hC he rfl ?_))
 wp_walk
 refine hq _ h.objs.size ?_ fun b o hb z=>?_
 .rw[Y_ _ (c_ _ he) rfl];rfl
 .rw[Zo _ _ _ _ hb];exact c_ _ z
end
def XR(e C:Addr)(od:Option Addr):Heap->Prop:=fun h=>∃t,h.get? e=some (eM C t od)
def XR.ok{P:C_}{w:N_}{H:Hp}{h:Heap}{e C t:Addr}{od:Option Addr}(x:h.get? e=some (eM C t od)):du P w H h e (.ext (XR e C od)):=⟨⟨t,x⟩,⟨_,x⟩,fun h1 h2 ⟨t,q⟩ k=>⟨t,k _ q⟩⟩
structure XI(K:W.Frag)(C:Addr)(bm:List Value)(f:Str):Prop where
 ob:∃N nm q bs sn sub ab col dd k0 k1 k2 k3 k5,K.lookup C=some (Z2 nm q C N bs bm true sn sub ab col dd k0 k1 k2 k3 k5 "ValueError.__new__")
 tl:∀h,K.In h->QcZ h ij bm
 g0:Qb3 K (.ref C) "__setattr__" = some (some (.builtin "object.__setattr__"))
 g1:Qb3 K (.ref C) f=some none
structure XT(K:W.Frag)(T:Addr):Prop where
 sp:specialIn K (.ref T) "__getattribute__" = some (some (.builtin "type.__getattribute__"))
 rd:readsIn K T (.type "type")=true
 fc:findCls K (.ref T) (.type "type") "__init__" = some (.val (.builtin "ValueError.__init__"))
variable{e:Expr}{X:Cx}{pos:Pos}
section
variable{ps:List Expr}{te:TE}{n k:Nat}{c:L2.St->Prop}{v₁ v₂:Expr}
def PJ(X:Cx)(ps:List Expr)(n:Nat)(c:L2.St->Prop):Prop:=∀(pz:List (Addr×Obj))(s:h_)(σ:L2.St)(H:Hp)(out:Str)(Q:Value->h_->Prop),Inv X pz σ H s->c σ->out.length+n<=1000000 ->(∀x t s',x.length<=sizeLine->Inv X pz σ H s'->Q (.str x t) s')->w_ (B_ X.prog X.w) X.A (joinParts out (QbF ps X.env)) Q X.xe s
def MN:PJ X [] 0 c:=fun pz s σ H out Q I _ hl q=>by
 have hz:out.length<=sizeLine:=by rw[J_];omega
 exact joinParts_nil (q out _ _ hz (I.tok _)) hz
def Ho(he:PE X e te)(hr:PJ X ps n c)(h:∀σ H Q,c σ->(∀x:Str,x.length<=k->Q (.str x) H)->te σ H Q)(hs:QbF (e::ps) X.env=eval e X.env::QbF ps X.env:=by rfl):PJ X (e::ps) (k+n) c:=fun pz s σ H out Q I hc hl q=>by
 rw[hs];refine joinParts_cons (bL (he pz s σ H (fun x H1=>∃y:Str,y.length<=k/\x=.str y/\H1=H) I (h σ H _ hc fun x hx=>⟨x,hx,rfl,rfl⟩)) fun u s1 ⟨x,H1,I1,r,y,hy,hx,hH⟩=>?_);subst hx hH;obtain⟨t,rfl⟩:=(show ∃t,u=Value.str y t from r)
 have e1:(out++y).length=out.length+y.length:=strLen_append _ _;refine⟨by rw[J_];omega,hr pz s1 σ _ _ Q I1 hc (by omega) q⟩
def MO{a:Str}{j:Nat}{p:Pos}(hr:PJ X ps n c)(hs:QbF (.Constant (.str a) j p::ps) X.env=eval (.Constant (.str a) j p) X.env::QbF ps X.env:=by rfl):PJ X (.Constant (.str a) j p::ps) (a.length+n) c:=Ho Ge hr (fun σ H Q _ q=>q a (y_ _)) hs
def MF{tv:TE}(hv:PE X e tv):PE X (.FormattedValue e (-1) none pos) (fun σ H Q=>tv σ H fun x H1=>∃i:Int,x=.int i/\i.natAbs.log2<64/\∀z:Str,z.length<=65->Q (.str z) H1):=by
 intro pz s σ H Q I h;refine FormattedValue_plain (bL (hv pz s σ H _ I h) fun u s1 ⟨x,H1,I1,r,i,hx,hi,q⟩=>?_);subst hx;obtain⟨t,rfl⟩:=(show ∃t,u=Value.int i t from r)
 refine formatField_int_small (by omega) ⟨.str (D_ (toString i)),H1,I1.tok _,⟨_,rfl⟩,q _ ?_⟩;rw[PySem.ofString_length];exact int_text_length_le (by omega) hi
def MM{j:Nat}{x:Str}{p:Pos}(hN:X.N[j]? = some x)(hv:gA X.env.scope x)(hr:PJ X ps n c)(hc:∀σ,c σ->∃i:Int,σ[j]? = some (some (.int i))/\i.natAbs.log2<64)(hd:(x==("__debug__" : Str))=false:=by decide)(z:(x==("__classdict__" : Str))=false:=by decide)(hs:QbF (.FormattedValue (.Name x p) (-1) none pos::ps) X.env=eval (.FormattedValue (.Name x p) (-1) none pos) X.env::QbF ps X.env:=by rfl):PJ X (.FormattedValue (.Name x p) (-1) none pos::ps) (65+n) c:=Ho (MF (gP hN hv hd z)) hr (fun σ H Q h q=>by obtain⟨i,e1,e2⟩:=hc σ h;exact⟨_,e1,i,rfl,e2,q⟩) hs
def LG(h:PJ X (v₁::v₂::ps) n c)(hn:n<=1000000)(hs:QbF (v₁::v₂::ps) X.env=eval v₁ X.env::eval v₂ X.env::QbF ps X.env:=by rfl):PE X (.JoinedStr (v₁::v₂::ps) pos) (fun σ H Q=>c σ/\∀x:Str,x.length<=sizeLine->Q (.str x) H):=by
 intro pz s σ H Q I ⟨hc,q⟩;refine JoinedStr_many ?_;have:=h pz s σ H Qbc (EP X pz σ Q) I hc (by show 0+n<=_;omega) fun x t s' hx I'=>⟨.str x,H,I',⟨t,rfl⟩,q x hx⟩
 rw[hs]at this;exact this
end
variable{t:TA}{a:Expr}{p:Pos}
section
variable{as:List Expr}{x:Str}{T:Addr}{apos:Pos}{pl:Sem Bool}
def Pg(hg:Gl X x)(hm:X.mg x=some (.ref T))(hT:XT X.K T)(ha:PA X (a::as) t)(Y:(x==("__debug__" : Str))=false:=by decide)(ht:eval (.Call (.Attribute (.Name x p) "__init__" apos) (a::as) [] pos) X.env=(do
   let ov <-eval (.Name x p) X.env
   Qca apos.atName
   let(f,first) <-Qam [ov] (QcX ov "__init__" pl)
   Qek pos f first (backTo pos (f_ (a::as) X.env)) (QbX pos (QaP [] X.env))):=by rfl)(hs:f_ (a::as) X.env=(false,eval a X.env)::f_ as X.env:=by rfl)(U:(backTo pos (f_ as X.env)).any (·.1)=false:=by rfl):PE X (.Call (.Attribute (.Name x p) "__init__" apos) (a::as) [] pos) (fun σ H Q=>t σ H fun vs H1=>∃e C bm f y,vs=[.ref e,y]/\H1 e=some (.ext (XR e C none))/\XI X.K C bm f/\Q .non H1):=by
 intro pz s σ H Q I h;refine methodCall_KW (pl:=pl) (my I hg hm ?_ Y) ht;refine method_cls I.kIn hT.sp (cls_value (mc:=.type "type") I.kIn hT.rd hT.fc rfl ?_);have I0:=I.tok (s.toks+1);have hA:=ha pos pz _ σ H _ I0 h;rw[hs]at hA ⊢;refine Qbm (by show(false || (backTo pos (f_ as X.env)).any (·.1))=false;rw[U] <;> rfl) (QcO ?_);refine bL hA fun us s1 ⟨vs,H1,I1,r,e,C,bm,f,y,hv,he,xi,q⟩=>?_;subst hv;obtain⟨u,z,rfl,r1,r2⟩:=uF r;cases(show u=Value.ref e from r1);obtain⟨⟨t,g1⟩,_,_⟩:=I1.hok e _ he;obtain⟨N,nm,ql,bs,sn,sub,ab,col,dd,k0,k1,k2,k3,k5,ob⟩:=xi.ob;refine OA (I1.kIn _ _ ob) (xi.tl _ I1.kIn) g1 fun h' t' g2 g3=>⟨.non,H1,?_,rfl,q⟩
 have:=I1.write (x:=e) (e:=e) (o:=.ext (XR e C none)) (h':=h') (t':=s1.toks) (by rw[he];trivial) (.inl rfl) g3 ⟨_,g2⟩ (XR.ok g2);rw[show upd H1 e (.ext (XR e C none))=H1 from by funext b;unfold upd;split <;> simp_all]at this;exact this
def Po{o v:Expr}{f:Str}{to tv:TE}{p':Pos}(ho:PE X o to)(hv:PE X v tv)(hs:Qaw v (some (.Attribute o f p')) pos.line X.env=pure false:=by rfl):PS X (.Assign [.Attribute o f p'] v pos) (fun D σ H=>tv σ H fun y H1=>to σ H1 fun x H2=>∃e C bm,x=.ref e/\H2 e=some (.ext (XR e C none))/\XI X.K C bm f/\∀dx,H2 dx=none->dx≠e->D.nx σ (upd (upd H2 dx (.xd [(f,y)])) e (.ext (XR e C (some dx))))):=by
 intro pz s σ H D I h;refine Qbs (bL (hv pz s σ H _ I h) fun u s1 ⟨y,H1,I1,ry,q⟩=>bL (ho pz s1 σ H1 _ I1 q) fun ov s2 ⟨x,H2,I2,rx,e,C,bm,ex,he,xi,q2⟩=>?_) hs;subst ex;obtain rfl:ov=Value.ref e:=rx;obtain⟨⟨t,g1⟩,_,_⟩:=I2.hok e _ he;obtain⟨N,nm,ql,bs,sn,sub,ab,col,dd,k0,k1,k2,k3,k5,ob⟩:=xi.ob;refine En I2.kIn (I2.kIn _ _ ob) (xi.tl _ I2.kIn) g1 xi.g0 xi.g1 fun h' dx ld n1 n2 n3 n4=>?_;have U:H2 dx=none:=by cases z:H2 dx with
 |none=>rfl
 |some ho=>obtain⟨o,z2⟩:=Ax (I2.hok dx _ z);rw[n1]at z2;cases z2
 have Y:dx≠e:=fun z=>by rw[z,g1]at n1;cases n1
 have old:∀b u,H2 b=some u->b≠e->upd (upd H2 dx (.xd [(f,y)])) e (.ext (XR e C (some dx))) b=some u:=fun b u hb hne=>by rw[bX hne,bX (fun z=>by rw[z,U]at hb;cases hb)];exact hb
 refine⟨σ,upd (upd H2 dx (.xd [(f,y)])) e (.ext (XR e C (some dx))),?_,q2 dx U Y⟩;refine I2.call' (ch:=[]) rfl ⟨fun b o hb hn _ _=>n4 b o (fun z=>by rw[z,he]at hn;cases hn) hb,fun b o hb hn _ _=>⟨o.slots,n4 b o (fun z=>by rw[z,he]at hn;cases hn) hb⟩,fun b o hb hn _=>?_,fun b o hb _=>?_,fun b xs hb=>old b _ hb (fun z=>by rw[z,he]at hb;cases hb),fun b o u hb=>old b _ hb (fun z=>by rw[z,he]at hb;cases hb),fun b ps hb=>⟨#[],by simpa using old b _ hb (fun z=>by rw[z,he]at hb;cases hb)⟩⟩ (fun b u hb=>?_) I2.bare fun b hb=>absurd hb (by simp)
 .rw[bX (fun z=>by rw[z,he]at hn;cases hn),bX (fun z=>by rw[z,n1]at hb;cases hb)];exact hn
 .by_cases z:b=e
  .exact⟨_,by rw[z];exact n2⟩
  .exact⟨o,n4 b o z hb⟩
 .by_cases z:b=e
  .subst z;rw[cQ]at hb;cases hb;exact XR.ok n2
  .rw[bX z]at hb;by_cases z2:b=dx
   .subst z2;rw[cQ]at hb;cases hb;refine⟨_,n3,fun g=>?_⟩;show dN (ZZ g [(f,y)]) _;rw[ZZ];by_cases hg:g=f
    .subst hg;simp only[beq_self_eq_true,if_pos];exact ry
    .rw[show(g==f)=false from by simpa using hg,if_neg hg];exact True.intro
   .rw[bX z2]at hb;refine(I2.hok b u hb).stay (fun c v hc Z=>n4 c v (fun zz=>?_) Z) (fun c hc=>old c _ hc fun zz=>by rw[zz,he]at hc;cases hc) fun c xs hc=>old c _ hc fun zz=>by rw[zz,he]at hc;cases hc
    rcases hc with rfl|hc
    .exact z zz
    .rw[zz,he]at hc;cases hc
end
def Lx{K:W.Frag}{h:Heap}{N:Addr}{mg:Str->Option Value}{n:Str}{v:Value}(X:K.In h)(G:h.Ns N mg)(e:nsIn K N n=some (some v)):mg n=some v:=by
 obtain⟨o,es,ep,ho,hd,_,hf⟩:=G;unfold nsIn at e;split at e
 .rename_i c d es' n' sl q;have hx:=X _ _ q;rw[ho]at hx;cases hx;cases hd;split at e
  .rename_i en he;rw[<-hf];unfold nsFind findBy;rw[<-Qdg,he]
   first|exact E_ e|(cases e;rfl)
  .split at e <;> cases e
 .cases e
def yK(C:Addr)(f:Str):Sp:=fun vs H Q _=>∃e i,vs=[.ref e,.int i]/\i.natAbs.log2<64/\H e=some (.ext (XR e C none))/\∀dx,H dx=none->dx≠e->Q .non (upd (upd H dx (.xd [(f,.int i)])) e (.ext (XR e C (some dx))))
def cI(σ:L2.St):Prop:=∃i:Int,σ[1]? = some (some (.int i))/\i.natAbs.log2<64
def Ed(K:W.Frag)(f:Str):TS:=sm (FB (fun σ H Q=>zP (kJ 0) (zP (fun σ H Q=>cI σ/\∀x:Str,x.length<=sizeLine->Q (.str x) H) ss) σ H fun vs H1=>∃e C bm f y,vs=[.ref e,y]/\H1 e=some (.ext (XR e C none))/\XI K C bm f/\Q .non H1))
 (fun D σ H=>kJ 1 σ H fun y H1=>kJ 0 σ H1 fun x H2=>∃e C bm,x=.ref e/\H2 e=some (.ext (XR e C none))/\XI K C bm f/\∀dx,H2 dx=none->dx≠e->D.nx σ (upd (upd H2 dx (.xd [(f,y)])) e (.ext (XR e C (some dx)))))
def Ob{P:C_}{w:N_}{K:W.Frag}{mg:Str->Option Value}{base:Heap}{qual y f:Str}{st:Stmt}{fI C:Addr}{fd:Zt}{bm:List Value}{k:Nat}(F:Fun K "__init__" qual st fI fd)(S:FnScope ["self",y] ["self",y] (aE st))(xi:XI K C bm f)(hb:∀(cdv:Value)(A:W_)(outer:List Env)(s:h_)(H:Hp)(E:XK),dq (bM cH P w K mg base ["self",y] qual (aE st) fI cdv A outer s H E).nox (aO st) (Ed K f)):FnOk P w K mg base cH (k+1) fI fd ["self",y] (yK C f):=by
 refine F.ok S (fun vs H Q E ⟨e,i,h,_⟩=>by rw[h];rfl) fun cdv A outer s H vs Q E hr ⟨e,i,hv,hi,he,q⟩=>⟨_,hb cdv A outer s H E,?_⟩
 subst hv;exact⟨_,rfl,⟨i,rfl,hi⟩,fun x _=>⟨e,C,bm,f,_,rfl,he,xi,_,rfl,_,rfl,e,C,bm,rfl,he,xi,fun dx h1 h2=>q dx h1 h2⟩⟩
structure XCI(P:C_)(w:N_)(K:W.Frag)(mg:Str->Option Value)(base:Heap)(x:Str)(C:Addr)(f:Str):Prop where
 bound:mg x=some (.ref C)
 keep:keepIn K (.ref C)=true
 ex:∃bm fI fd y oI N nm ql bs sn sub ab col dd k0 k1 k2 k3 k5,XI K C bm f/\K.lookup C=some (Z2 nm ql C N bs bm true sn sub ab col dd k0 k1 k2 k3 k5 "ValueError.__new__")/\nsOkIn K N=true/\nsIn K N "__init__" = some (some (.ref fI))/\K.lookup fI=some oI/\oI.cls=.type "function" /\hU K fd ["self",y] []/\FnOk P w K mg base cH 1 fI fd ["self",y] (yK C f)
variable{pz:List (Addr×Obj)}{σ:L2.St}{H:Hp}{s:h_}
def Inv.exc{h':Heap}{e C:Addr}{vs:List Value}(I:Inv X pz σ H s)(m:s.heap.MadeExcOf h' e (.ref C) vs):H e=none/\Inv X pz σ (upd H e (.ext (XR e C none))) { heap:=h',gens:=s.gens,drawn:=s.drawn,toks:=s.toks,os:=s.os }:=by
 obtain⟨t,m1,m2,m3⟩:=m.there;have hn:H e=none:=by cases z:H e with
 |none=>rfl
 |some u=>obtain⟨o,z2⟩:=Ax (I.hok e u z);rw[m.new]at z2;cases z2
 have old:∀b u,H b=some u->upd H e (.ext (XR e C none)) b=some u:=fun b u hb=>by rw[bX (fun z=>by rw[z,hn]at hb;cases hb)];exact hb
 refine⟨hn,I.call' (ch:=[]) rfl ⟨fun b o hb _ _ _=>m.keeps b o hb,fun b o hb _ _ _=>⟨o.slots,m.keeps b o hb⟩,fun b o hb hz _=>?_,fun b o hb _=>⟨o,m.keeps b o hb⟩,fun b xs hb=>old b _ hb,fun b o u hb=>old b _ hb,fun b ps hb=>⟨#[],by simpa using old b _ hb⟩⟩ (fun b u hb=>?_) I.bare fun b hb=>absurd hb (by simp)⟩
 .rw[bX (fun z=>by rw[z,m.new]at hb;cases hb)];exact hz
 .by_cases z:b=e
  .subst z;rw[cQ]at hb;cases hb;exact XR.ok m1
  .rw[bX z]at hb;exact(I.hok b u hb).stay (fun c v _ hc=>m.keeps c v hc) (fun c hc=>old c _ hc) fun c xs hc=>old c _ hc
def Fly.init{s':h_}{h':Heap}{e C dx:Addr}{vs:List Value}{f:Str}{y:V}(I:Inv X pz σ H s)(m:s.heap.MadeExcOf h' e (.ref C) vs)(os:s'.os=s.os)(bare:Qbf s'.gens)(un:Un (dJ X.stack) [] (upd H e (.ext (XR e C none))) (upd (upd (upd H e (.ext (XR e C none))) dx (.xd [(f,y)])) e (.ext (XR e C (some dx)))) h' s'.heap)(hok:dH X.prog X.w (upd (upd (upd H e (.ext (XR e C none))) dx (.xd [(f,y)])) e (.ext (XR e C (some dx)))) s'.heap)(BT:upd H e (.ext (XR e C none)) dx=none)(ld:dx≠e):H dx=none/\Fly X.prog X.w X.stack H s (upd H dx (.xd [(f,y)])) e (.ref C) (some dx) s':=by
 obtain⟨hn,I2⟩:=Inv.exc I m;have hd:H dx=none:=by rw[bX ld]at BT;exact BT
 have ne:∀b o,s.heap.get? b=some o->b≠e:=fun b o hb z=>by rw[z,m.new]at hb;cases hb
 have up:∀b,b≠e->upd (upd (upd H e (.ext (XR e C none))) dx (.xd [(f,y)])) e (.ext (XR e C (some dx))) b=upd H dx (.xd [(f,y)]) b:=fun b hb=>by
  rw[bX hb];by_cases z:b=dx
  .subst z;rw[cQ,cQ]
  .rw[bX z,bX z,bX hb]
 have U:∀b,b≠e->upd H e (.ext (XR e C none)) b=H b:=fun b hb=>bX hb;have IO:upd H dx (.xd [(f,y)]) e=none:=by rw[bX ld.symm];exact hn
 have Cl:∀b u,upd H dx (.xd [(f,y)]) b=some u->b≠e:=fun b u hb z=>by rw[z,IO]at hb;cases hb
 obtain⟨⟨t,g1⟩,_,_⟩:=hok e _ cQ;have Y:Un (dJ X.stack) [] H (upd H dx (.xd [(f,y)])) s.heap s'.heap:=by
  refine⟨fun b o hb hz hf hx=>un.keep b o (m.keeps b o hb) (by rw[U b (ne b o hb)];exact hz) hf hx,fun b o hb hz hf hx=>un.slot b o (m.keeps b o hb) (by rw[U b (ne b o hb)];exact hz) hf hx,fun b o hb hz hx=>?_,fun b o hb hx=>un.there b o (m.keeps b o hb) hx,fun b xs hb=>?_,fun b o u hb=>?_,fun b ps hb=>?_⟩
  .rw[<-up b (ne b o hb)];exact un.free b o (m.keeps b o hb) (by rw[U b (ne b o hb)];exact hz) hx
  .have hbe:b≠e:=fun z=>by rw[z,hn]at hb;cases hb
   rw[<-up b hbe];exact un.tups b xs (by rw[U b hbe];exact hb)
  .have hbe:b≠e:=fun z=>by rw[z,hn]at hb;cases hb
   rw[<-up b hbe];exact un.frzs b o u (by rw[U b hbe];exact hb)
  .have hbe:b≠e:=fun z=>by rw[z,hn]at hb;cases hb
   rw[<-up b hbe];exact un.tbls b ps (by rw[U b hbe];exact hb)
 have Z:dH X.prog X.w (upd H dx (.xd [(f,y)])) s'.heap:=fun b u hb=>by
  refine(hok b u (by rw[up b (Cl b u hb)];exact hb)).stay (fun c v _ hc=>hc) (fun c hc=>?_) fun c xs hc=>?_
  .have:c≠e:=fun z=>by rw[z,cQ]at hc;cases hc
   rw[<-up c this];exact hc
  .have:c≠e:=fun z=>by rw[z,cQ]at hc;cases hc
   rw[<-up c this];exact hc
 refine⟨hd,os,bare,Y,Z,hideAll s'.heap (e::dJ X.stack),fun b o hb=>of_hideAll _ hb,hideAll_none _ r_,?_,⟨_,_,g1,rfl,fun d hd=>by cases hd;rfl,rfl,.inl rfl⟩,fun b o hb hf=>?_,fun b u hb=>?_⟩
 .have key:∀l:List Env,(∀b∈dJ l,b∈dJ X.stack)->s.heap.FunFrames X.base l->s'.heap.FunFrames (hideAll s'.heap (e::dJ X.stack)) l:=by
   intro l
   induction l with
  |nil=>intro _ _;unfold QcQ;trivial
  |cons env l ih=>intro hs hf;unfold QcQ at hf ⊢;obtain⟨f1,⟨L,o,f2,f3,f4,f5⟩,f6⟩:=hf;have hL:L∈dJ X.stack:=hs L (by unfold dJ;rw[Z9,f2];exact r_);obtain⟨sl,Id⟩:=Y.slot L o f4 (I.stkFree L hL) hL (by simp);refine⟨f1,⟨L,_,f2,hideAll_none _ (m_ _ hL),Id,f5⟩,ih (fun b hb=>hs b ?_) f6⟩;unfold dJ;rw[Z9,f2];exact m_ _ hb
  exact key X.stack (fun _ hb=>hb) I.stack
 .obtain⟨o',ho'⟩:=Y.there b o hb (by simp);exact⟨o',hideAll_get _ ho' fun z=>by
   rcases e_.mp z with z|z
   .exact ne b o hb z
   .exact hf z⟩
 .obtain⟨o,eo⟩:=Ax (Z b u hb);refine⟨o,hideAll_get _ eo fun z=>?_⟩;rcases e_.mp z with z|z
  .exact Cl b u hb z
  .have h1:=I.stkFree b z;by_cases zz:b=dx
   .obtain⟨_,ob,hob,_⟩:=I.stack.mem z;have:=Y.free b ob hob h1 (by simp);rw[this]at hb;cases hb
   .rw[bX zz,h1]at hb;cases hb
variable{f:Str}{np:Pos}
section
variable{x:Str}{cpos:Pos}
def Sk{Q:Flow->h_->Prop}(I:Inv X pz σ H s)(hc:X.calm=true)(c:XCI X.prog X.w X.K X.mg X.base x C f)(hr:Room 2 X.A)(hg:Gl X x)(ha:PA X [a] t)(h:t σ H fun vs H1=>∃i,vs=[.int i]/\i.natAbs.log2<64/\∀s1 e dx s',Inv X pz σ H1 s1->H1 dx=none->Fly X.prog X.w X.stack H1 s1 (upd H1 dx (.xd [(f,.int i)])) e (.ref C) (some dx) s'->X.xe (.ref e) s')(Z:(x==("__debug__" : Str))=false:=by decide)(he:f_ [a] X.env=(false,eval a X.env)::f_ [] X.env:=by rfl)(BT:(backTo cpos (f_ [] X.env)).any (·.1)=false:=by rfl):w_ (B_ X.prog X.w) X.A (exec (.Raise (some (.Call (.Name x np) [a] [] cpos)) none pos) X.env) Q X.xe s:=by
 obtain⟨bm,fI,fd,y,oI,N,nm,ql,bs,sn,sub,ab,col,dd,k0,k1,k2,k3,k5,xi,ob,U,Y,Id,Cl,ld,F⟩:=c.ex;rw[arm_exec_Raise];refine a_ (QaH (Qg (C:=C) (nm:=nm) (ql:=ql) (N:=N) (bs:=bs) (bm:=bm) (hdct:=true) (sn:=sn) (sub:=sub) (ab:=ab) (col:=col) (dd:=dd) (k0:=k0) (k1:=k1) (k2:=k2) (k3:=k3) (k5:=k5) (nw := "ValueError.__new__") (IL (xi.tl _ I.kIn) (by decide+kernel)) (I.ok.hd hc)
  (a_ (Y7 (ZE (my I hg c.bound ?_ Z)) (fun v s3 h3=>a_ (QaH (n_ h3))) fun _ _ z=>z))))
 refine callWith_K (h₀:=X.base) I.ok.mod.kin c.keep (bL (ha cpos pz s σ H _ I h) fun us s1 ⟨vs,H1,I1,r,i,hv,hi,q⟩=>⟨I1.kIn,?_⟩) he BT;subst hv;obtain⟨u,rfl,ru⟩:=r.one;obtain⟨hp,gs,dr,tk,os⟩:=s1;refine Rk (us:=[u]) Qb5 (xi.tl _ I1.kIn) (I1.kIn _ _ ob) (Qd9 (isNs_of_in I1.kIn U)) ?_ (I1.kIn _ _ Id) Cl (by rw[J_];show 1<=16777216;decide) fun h' e m=>?_
 .exact Lx I1.kIn (Qd9 (isNs_of_in I1.kIn U)) Y
 obtain⟨hn,I2⟩:=Inv.exc I1 m;have e0:=I2.env0.make C [u] [];refine Qa8 (Qan (F.run _ X.stack _ _ ⟨[.ref e,u],[]⟩ [.ref e,u] [.ref e,.int i] (fun v H'=>v=.non/\∃dx,upd H1 e (.ext (XR e C none)) dx=none/\dx≠e/\H'=upd (upd (upd H1 e (.ext (XR e C none))) dx (.xd [(f,.int i)])) e (.ext (XR e C (some dx)))) (fun _ _ _=>False) (hr.make C [u] []) e0 (ld _ [.ref e,u] I2.kIn rfl) (.cons rfl (.cons ru .nil)) ⟨e,i,rfl,hi,cQ,fun dx h1 h2=>⟨rfl,dx,h1,h2,rfl⟩⟩) fun r s' hq=>?_);cases r with
|error e=>exact Y2 hq
|ok fl=>cases fl with
 |ret z=>obtain⟨v,H',o1,o2,o3,o4,o5,rfl,dx,d1,d2,rfl⟩:=hq;obtain⟨hd,fl⟩:=Fly.init I1 m o1 o2 o3 o4 d1 d2;obtain⟨⟨t,g1⟩,_,_⟩:=o4 e _ cQ;exact⟨o5,e,t,some dx,rfl,(I1.call' (ch:=[]) fl.os fl.un fl.hok fl.bare (fun b z=>absurd z (by simp))).kIn _ _ ob,g1,q _ e dx s' I1 hd fl⟩
 |next=>exact Y2 hq
 |brk=>exact Y2 hq
 |cont=>exact Y2 hq
end
def zT(m:List Md)(nm f:Str)(fl:aL->Res (List D)):FS:=fun r=>onE m r (fl r) fun ds=>match ds with
|[.int i]=>if i.natAbs.log2<64 then .exc (xD nm [(f,.int i)]) (forget m r)else .stuck
|_=>.stuck
variable{g:GE}{ro:Bool}{m mb:List Md}
section
variable{fl:aL->Res (List D)}{fe:FE}{x:Str}
def Qs(hc:X.calm=true)(c:XCI X.prog X.w X.K X.mg X.base x C f)(xn:XN X.K nm C)(hr:Room 2 X.A)(hg:Gl X x)(ha:SA X g m [a] fl)(z:(x==("__debug__" : Str))=false:=by decide)(he:f_ [a] X.env=(false,eval a X.env)::f_ [] X.env:=by rfl)(U:(backTo p (f_ [] X.env)).any (·.1)=false:=by rfl):SS X g ro mb m (.Raise (some (.Call (.Name x np) [a] [] p)) none pos) (zT m nm f fl) m:=by
 refine⟨rfl,fun pz s σ H D I ⟨r,G,si,q⟩=>?_⟩;refine Sk I hc c hr hg ha ⟨r,G,si,?_⟩ z he U;refine cn (gE si rfl q) fun ds q vs G' H' w' rs=>?_;split at q
 .rename_i i;split at q
  .rename_i hi;cases rs with
  |cons r1 rest=>cases rest;have hv:=r1.int w'.ok;subst hv;refine⟨i,rfl,hi,fun s1 e dx s' I1 hd fl=>?_⟩;have gw:Grow X.K G' H' (gset G' dx (.obj 1 [(f,.int i)])) (upd H' dx (.xd [(f,.int i)])):=Grow.newF w'.ok hd (OB.fld cQ (.cons ⟨rfl,.scl (.int i)⟩ .nil));exact q pz (.ref e) s' σ _ _ (w'.trans gw).ge (by have:=(si.grow (w'.trans gw)).forget;exact this) (fl.inv I1) ⟨pz,s1,H',e,C,some dx,nm,[(f,.int i)],rfl,rfl,xn,fW,I1,fl⟩
  .exact q.elim
 .exact q.elim
end
def ED(K:W.Frag)(C:Addr):Option Addr:=match K.lookup C with
|some ⟨_,_,.cls cd,_⟩=>some cd.ns
|_=>none
def iO(K:W.Frag)(C N:Addr):Bool:=match K.lookup C with
|some ⟨.type "type",_,.cls cd,sl⟩=>(match cd.mro,sl.toList with
 |.ref C'::bm,[_,_,_,_,some (.builtin n),_]=>C'==C&&n == "ValueError.__new__" && ! cd.hasDel&&cd.hasDict&&tailIn K ij bm&&nsOkIn K cd.ns&&cd.ns==N
 |_,_=>false)
|_=>false
def Ms{K:W.Frag}{C N:Addr}(h:iO K C N=true):∃bm,(∃nm q bs sn sub ab col dd k0 k1 k2 k3 k5,K.lookup C=some (Z2 nm q C N bs bm true sn sub ab col dd k0 k1 k2 k3 k5 "ValueError.__new__"))/\tailIn K ij bm=true/\nsOkIn K N=true:=by
 unfold iO at h;split at h
 .rename_i dict cd sl hk;split at h
  .rename_i C' bm k0 k1 k2 k3 n k5 hm hs;simp only[P_,beq_iff_eq,Qch]at h;obtain⟨⟨⟨⟨⟨⟨rfl,rfl⟩,hd⟩,hx⟩,ht⟩,hn⟩,rfl⟩:=h;obtain⟨U,bs,mro,ns,q,hdct,sn,sub,ab,col,z⟩:=cd;have e1:mro=Value.ref C'::bm:=hm;have e2:z=false:=hd;have e4:hdct=true:=hx;subst e1 e2 e4;have e3:sl = #[k0,k1,k2,k3,some (Value.builtin "ValueError.__new__"),k5]:=by cases sl with
   |mk l=>exact congrArg Array.mk hs
   subst e3;exact⟨bm,⟨_,_,_,_,_,_,_,_,_,_,_,_,_,hk⟩,ht,hn⟩
  .cases h
 .cases h
def F0{K:W.Frag}{C N:Addr}{bm:List Value}{nm:Str}(h:iO K C N=true)(o:fX K C=some (bm,nm)):(∃nm q bs sn sub ab col dd k0 k1 k2 k3 k5,K.lookup C=some (Z2 nm q C N bs bm true sn sub ab col dd k0 k1 k2 k3 k5 "ValueError.__new__"))/\tailIn K ij bm=true/\nsOkIn K N=true:=by
 obtain⟨bm',⟨ld,q,bs,sn,sub,ab,col,dd,k0,k1,k2,k3,k5,h1⟩,h2,h3⟩:=Ms h;obtain⟨⟨N1,Y,q1,U,Id,Cl,sub1,IO,z,BT,a0,a1,a2,a3,a5,Z,z1⟩,_⟩:=zQ o;rw[h1]at z1;have:bm'=bm:=by have e1:=congrArg Obj.data (E_ z1);have e2:=Data.cls.inj e1;have e3:=congrArg ClassData.mro e2;exact(List.cons.inj e3).2
 subst this;exact⟨⟨_,_,_,_,_,_,_,_,_,_,_,_,_,h1⟩,h2,h3⟩
def EY{K:W.Frag}{C N:Addr}{bm:List Value}{nm f:Str}(h:iO K C N=true)(o:fX K C=some (bm,nm))(g0:Qb3 K (.ref C) "__setattr__" = some (some (.builtin "object.__setattr__")))(g1:Qb3 K (.ref C) f=some none):XI K C bm f:=by obtain⟨⟨z,q,bs,sn,sub,ab,col,dd,k0,k1,k2,k3,k5,h1⟩,h2,h3⟩:=F0 h o;exact⟨⟨N,z,q,bs,sn,sub,ab,col,dd,k0,k1,k2,k3,k5,h1⟩,fun h kin=>tail_of_in kin h2,g0,g1⟩
def KI{P:C_}{w:N_}{K:W.Frag}{h:Heap}{mg:Str->Option Value}{x y f qual nm:Str}{C N fI:Addr}{bm:List Value}{st:Stmt}{fd:Zt}(KX:K.In h)(G:h.Ns K_ mg)(a:nsIn K K_ x=some (some (.ref C)))(kp:keepIn K (.ref C)=true)(z:iO K C N=true)(o:fX K C=some (bm,nm))(xi:XI K C bm f)(i:nsIn K N "__init__" = some (some (.ref fI)))(F:Fun K "__init__" qual st fI fd)(fc:typeIn K (.ref fI)=some (.type "function"))(hb:∀(kV doc pm:Value)(an:Option Addr)(cdv ct:Value)(us:List Value),us.length=([("self" : Str),y]).length->Qbk (W.fnOf "__init__" qual (aP st) (aO st) (aE st) .none kV doc pm an cdv ct) ⟨us,[]⟩=pure (([("self" : Str),y]).zip us))(ok:∀base,FnOk P w K mg base cH 1 fI fd ["self",y] (yK C f))(base:Heap):XCI P w K mg base x C f:=by obtain⟨⟨U,q,bs,sn,sub,ab,col,dd,k0,k1,k2,k3,k5,h1⟩,h2,h3⟩:=F0 z o;obtain⟨oI,lI,hI⟩:=Qcz.mp (show(K.lookup fI).map (·.cls)=some (.type "function")from fc);exact⟨mg_of KX G a,kp,bm,fI,fd,y,oI,N,U,q,bs,sn,sub,ab,col,dd,k0,k1,k2,k3,k5,xi,h1,h3,i,lI,hI,F.binds hb,ok base⟩
def L8(s:Stmt):Stmt:=match s with
|.ClassDef _ _ _ (d::_) _ _ _ _ _ _ _=>d
|_=>s
section
variable{P:C_}{mg:Str->Option Value}{base:Heap}
def Iu{x:Str}{st:Stmt}{N ps:List Str}{k:Nat}{ro:Bool}{ms:List Md}{fs:FS}{m':List Md}{dds:List Value}(A:DefAtD K mg x st dds)(S:FnScope N ps (aE st))(ld:ms.length=ps.length)(hb:∀(T:Addr)(kV doc pm:Value)(an:Option Addr)(cdv ct:Value)(us:List Value),us.length=ps.length->∃kk:Option (Array Value)->Sem (List (Str×Value)),Qbk (W.fnOf x x (aP st) (aO st) (aE st) (.ref T) kV doc pm an cdv ct) ⟨us,[]⟩=seqItems? (.ref T) >>= kk/\kk (some dds.toArray)=pure (ps.zip (us++[])))(z:∀(f:Addr)(cdv:Value)(A:W_)(outer:List Env)(s:h_)(H:Hp)(g:GE)(E:XK),Room k (A.deeper (QaX x (aE st) s.heap.objs.size f cdv)) ->fU (bM (yT P w) P w K mg base N x (aE st) f cdv A outer s H E) g ro [] (iC N.length ms) (aO st) fs m'):CalleeX P w K mg base x ps [] (k+1) ro ms fun ds=>dU ro (fs (c7 N.length ds)):=by
 obtain⟨f,T,o,n,oc,od,kV,doc,pm,an,cdv,ct,osl,h1,hT,hd,lk,Y,kp⟩:=A.ex;refine⟨f,W.fnOf x x (aP st) (aO st) (aE st) (.ref T) kV doc pm an cdv ct,h1,kp,fun s us KX hl=>?_,?_⟩
 .obtain⟨kk,e1,e2⟩:=hb T kV doc pm an cdv ct us (by simpa using hl);exact BindsTo.of_defaults rfl (KX _ _ hT) hd e1 e2
 .refine E7 lk Y S (fun vs H Q E ⟨G,ds,gk,rs,q⟩=>rs.len.1.trans ld) fun A outer s H vs Q E hr h=>?_;obtain⟨G,ds,gk,rs,q⟩:=h;have Id:ps.length<=N.length:=by have:=congrArg QcN S.pre;rw[Qad]at this;omega
  refine⟨_,(z f cdv A outer s H ⟨G,H,fun _=>none⟩ E hr).2,c7 N.length ds,G,Bh gk rs (by omega),?_⟩;replace q:fin (dU ro (fs (c7 N.length ds))) _ _:=q;cases e:fs (c7 N.length ds)with
 |nx r'=>rw[e]at q;cases ro with
  |false=>exact fun σ' G' H' _ si=>q .non G' H' si.grown (.scl .non)
  |true=>exact q.elim
 |rt d=>rw[e]at q;exact fun v G' H' wg rv=>q v G' H' wg rv
 |bk r'=>rw[e]at q;exact q.elim
 |ct r'=>rw[e]at q;exact q.elim
 |exc x r'=>rw[e]at q;intro pz ev s' σ' G' H' le si I ex;obtain⟨Cl,s1,H1,a,C,U,nm,Z,rfl,rfl,xn,xf,I1,fl⟩:=ex;exact fl.leaves I1 rfl rfl rfl fun s'' BT=>⟨a,_,H',U,rfl,BT,q C U nm Z G' H' rfl xn xf si.grown⟩
 |stuck=>rw[e]at q;exact q
end
variable{tg:Expr}
def Pn{iter:Expr}{body:List Stmt}{wi:TI}{g:TG}{tb:TS}{pos:Pos}(hc:X.calm=true)(hi:PI X tg iter wi)(hg:PG X.nox tg g)(hb:dq X.nox body tb)(hs:∀x,Zq iter X.env x=pure x:=by intro _;rfl):PS X (.For tg iter body [] pos) (su wi g tb):=by
 intro pz s σ H D I h;refine wpAny_For (bL (hi pz s σ H _ I h) fun v s1 h1=>bL h1 fun itv s2 h2=>?_) hs;obtain⟨it,fp,tn,J,H2,e,I2,T,ld,f2,W,⟨m0,w0⟩,turn⟩:=h2;subst e;have Y:∀{H':Hp},(∀b∈fp,H' b=none)->∀b∈fp,eL X pz H' b:=fun hn b hb=>⟨hn b hb,(f2 b hb).2⟩
 refine Qc1 (fun n s'=>∃i σ' H',L2.Inv X pz σ' H' s'/\tn i s'.heap/\(∀b∈fp,H' b=none)/\W i n σ' H') ?_ m0 ⟨0,σ,H2,I2,ld,fun b hb=>(f2 b hb).1,w0⟩
 rintro n s3 ⟨i,σ3,H3,I3,st3,fr3,w3⟩
 rcases turn i n σ3 H3 w3 with⟨stop,qn⟩|⟨go,N,hN,step⟩
 .refine Y7 (T.done X rfl rfl rfl hc i pz s3 σ3 H3 (fun _ _=>False) I3 (Y fr3) st3 stop) (fun r s4 ⟨hr,I4⟩=>?_) fun _ _ z=>Y2 z;subst hr;exact QaF ⟨σ3,H3,I4,qn⟩
 .refine Y7 (T.item X rfl rfl rfl hc i pz s3 σ3 H3 (fun _ _=>False) I3 (Y fr3) st3 go) (fun r s4 ⟨u,hr,h4⟩=>?_) fun _ _ z=>Y2 z;subst hr;refine Y7 h4 (fun _ s5 ⟨x,H5,I5,r5,y5,st5,fr5⟩=>?_) fun _ _ z=>Y2 z;have Z:=I5.pinned (Y fr5) (T.obj _ _ st5);refine Y7 (hg _ s5 σ3 H5 x u _ (Z.wish _) r5 (step x H5 y5)) (fun _ s6 ⟨σ6,H6,I6,q6⟩=>?_) fun _ _ z=>Y2 z;refine Y7 (hb _ s6 σ6 H6 _ I6 q6) (fun f s7 q7=>?_) fun _ _ z=>Y2 z;have again:∀{U:L2.St}{H7:Hp},L2.Inv X (pz++oH fp s5.heap) U H7 s7->N U H7->∃m,m<n/\∃i σ' H',L2.Inv X pz σ' H' s7/\tn i s7.heap/\(∀b∈fp,H' b=none)/\W i m σ' H':=fun{U H7} I7 n7=>by obtain⟨m',hm,w7⟩:=hN U H7 n7;refine⟨m',hm,i+1,U,H7,I7.unpinned,T.keep _ _ _ st5 fun b hb o e=>(I7.pin (b,o) (M_ _ (M_ _ (pv hb e)))).1,fun b hb=>?_,w7⟩;obtain⟨o,e,d⟩:=T.obj _ _ st5 b hb;exact(I7.pin (b,o) (M_ _ (M_ _ (pv hb e)))).2.1
  cases f with
 |next=>obtain⟨U,H7,I7,n7⟩:=q7;exact again I7.unwish n7
 |cont=>obtain⟨U,H7,I7,n7⟩:=q7;exact again I7.unwish n7
 |brk=>obtain⟨U,H7,I7,q7⟩:=q7;exact⟨U,H7,I7.unwish.unpinned,q7⟩
 |ret v=>obtain⟨x7,U,H7,I7,r7,q7⟩:=q7;exact⟨x7,U,H7,I7.unwish.unpinned,r7,q7⟩
def ip(s:FS):FS:=fun r=>match s r with
|.exc _ _=>.stuck
|o=>o
def At(m:List Md)(fi:FI)(ft:FT)(body:FS):FS:=fun r=>onE m r (fi r) fun ds=>bG ft (ip body) ds r
section
variable{iter:Expr}{sts:List Stmt}{s1:FS}
def NW(hc:X.calm=true){ft:FT}{fi:FI}(hi:iw X g m tg iter fi)(hg:SG X.nox g m tg ft m)(hb:fU X.nox g ro m m sts s1 m)(hs:∀x,Zq iter X.env x=pure x:=by intro _;rfl):SS X g ro mb m (.For tg iter sts [] pos) (At m fi ft s1) m:=by
 refine⟨rfl,PS.imp (Pn hc hi hg.2 hb.2 hs) fun D σ H ⟨r,G,si,q⟩=>⟨r,G,si,cn (gE si rfl q) fun ds q J G0 H0 w0 Y=>?_⟩⟩;refine⟨fun i n σ H=>∃r G,SI X g m r G σ H/\bO G0 G/\i<=ds.length/\n=ds.length-i/\cV X g ro m mb G D (bG ft (ip s1) (ds.drop i) r),⟨ds.length,r,G0,si.grow w0,bO.refl G0,Zf _,rfl,cV.gle q w0.ge⟩,?_⟩
 rintro i n σ1 H1 ⟨r1,G1,si1,le1,hi,rfl,q1⟩
 by_cases ld:i<ds.length
 .have hd:ds.drop i=ds[i]::ds.drop (i+1):=ZQ ld;rw[hd]at q1;unfold bG at q1;refine .inr ⟨Y.go G1 H1 i le1 si1.gok ld,fun σ' H'=>∃r G,SI X g m r G σ' H'/\bO G0 G/\cV X g ro m mb G D (bG ft (ip s1) (ds.drop (i+1)) r),fun σ' H' ⟨r',G',si',BT,q'⟩=>⟨ds.length-(i+1),by omega,r',G',si',BT,ld,rfl,q'⟩,fun x H' y=>?_⟩;obtain⟨G',w',rv⟩:=Y.yld G1 H1 i x H' ds[i] le1 si1.gok y (o_ ld);have BT:bO G0 G':=le1.trans w'.ge;cases Cl:ft ds[i] r1 with
 |none=>simp only[Cl]at q1;exact q1.elim
 |some r2=>
   simp only[Cl]at q1;have U:SI X g m r1 G' σ1 H':=si1.grow w';refine⟨r1,G',ds[i],⟨U.gok,U.old,U.ge,U.gf,U.lm,U.lr,U.sh,U.ow,U.bw,U.dis,U.lk⟩,rv,r2,Cl,fun σ2 Id=>⟨r2,G',Id,?_⟩⟩;have back:∀{m:List Md}{r:aL}{G:GH}{σ:L2.St}{H:Hp},SI X.nox g m r G σ H->SI X g m r G σ H:=fun z=>⟨z.gok,z.old,z.ge,z.gf,z.lm,z.lr,z.sh,z.ow,z.bw,z.dis,z.lk⟩
   have en:ip s1 r2=match s1 r2 with
   |.exc _ _=>.stuck
   |o=>o:=rfl
   cases eb:s1 r2 with
  |nx r'=>simp only[en,eb]at q1;exact fun σ3 G3 H3 Z si3=>⟨r',G3,back si3,BT.trans Z,cV.gle q1 (bO.trans w'.ge Z)⟩
  |ct r'=>simp only[en,eb]at q1;exact fun σ3 G3 H3 Z si3=>⟨r',G3,back si3,BT.trans Z,cV.gle q1 (bO.trans w'.ge Z)⟩
  |bk r'=>simp only[en,eb]at q1;exact fun σ3 G3 H3 Z si3=>q1 σ3 G3 H3 (bO.trans w'.ge Z) (back si3)
  |rt d=>simp only[en,eb]at q1;exact q1
  |exc x r'=>simp only[en,eb]at q1;exact q1.elim
  |stuck=>simp only[en,eb]at q1;exact q1.elim
 .have e:i=ds.length:=by omega
  subst e;rw[QaV]at q1;exact .inl ⟨Y.stop G1 H1 le1 si1.gok,q1 σ1 G1 H1 (bO.refl _) si1⟩
end
abbrev Fp(n:Str)(i:Int):PyData:=.tuple [.str n,.int i]
def sC(n:Str)(i:Int):Prop:=(Fp n i).showable=true/\(Fp n i).shown.length<=1000
instance (n:Str) (i:Int):Decidable (sC n i):=by unfold sC;infer_instance
end DL
namespace DL
open PySem PySem.Spec PyProof.Rows L2 PySem.W PySem.Calls PySem.Builtin PySem.Builtin.Str
def istD:D->D->Option D
|.bl c,.bl d=>some (.bl (c==d))
|.non,.bl _=>some (.bl false)
|.int _,.bl _=>some (.bl false)
|_,_=>none
def sN:R2:=fun x y H Q=>∃d,y=.bl d/\((∃c,x=.bl c/\Q (.bl (c==d)) H)\/((x=.non\/∃i,x=.int i)/\Q (.bl false) H))
def Nf{X:Cx}:cu X (Y6 .Is) sN:=by
 intro pz s σ H x y v u Q I rx ry ⟨d,ey,h⟩;subst ey;cases ry;rcases h with⟨c,ex,q⟩|⟨ex|⟨i,ex⟩,q⟩
 .subst ex;cases rx;exact is_bool ⟨.bl _,H,I,rfl,q⟩
 .subst ex;cases rx;exact wpAny_is_other rfl (by intro z;cases z) ⟨.bl false,H,I,rfl,q⟩
 .subst ex;obtain⟨t,rfl⟩:=(show ∃t,v=Value.int i t from rx)
  exact wpAny_is_other rfl (by intro z;cases z) ⟨.bl false,H,I,rfl,q⟩
def Od{K:W.Frag}:fH K sN istD:=by
 intro G H v1 v2 d1 d2 d Q gk r1 r2 e q;unfold istD at e;split at e
 .cases e;exact⟨_,r2.bl gk,.inl ⟨_,r1.bl gk,q _ G H (Grow.refl gk) (.scl (.bl _))⟩⟩
 .cases e;exact⟨_,r2.bl gk,.inr ⟨.inl (r1.non gk),q _ G H (Grow.refl gk) (.scl (.bl _))⟩⟩
 .cases e;exact⟨_,r2.bl gk,.inr ⟨.inr ⟨_,r1.int gk⟩,q _ G H (Grow.refl gk) (.scl (.bl _))⟩⟩
 .cases e
def FH{X:Cx}{g:GE}{m:List Md}{a b:Expr}{fa fb:FE}{pos:Pos}(ha:SB X g m a fa)(hb:SB X g m b fb):SE X g m (.Compare a [.Is] [b] pos) (f2 fa fb istD):=lh Nf Od ha hb (jA _)
end DL
namespace DL
open PySem PySem.Spec PyProof.Rows L2 PySem.W PySem.Calls
section
variable{X:Cx}{g:GE}{ro:Bool}{m mb:List Md}{a e:Expr}{fl:aL->Res (List D)}{fe:FE}{x f nm:Str}{C:Addr}{p np pos q1 q2 q3:Pos}
def sT(T1 T2:String)(d:D):Option D:=(jv d).map fun t=>.bl (dR t T1 || dR t T2)
def M3(K:W.Frag)(d:D)(t:String)(h:jv d=some t):kitAny K (.type t) [.type "list",.type "tuple"]=some (dR t "list" || dR t "tuple"):=qH (P:=fun t=>kitAny K (.type t) [.type "list",.type "tuple"]=some (dR t "list" || dR t "tuple")) h (by kernel_rfl) (by kernel_rfl) (by kernel_rfl) (by kernel_rfl) (by kernel_rfl) (by kernel_rfl) (by kernel_rfl)
def Ro{T1 T2:String}:gp X (.builtin "isinstance") (fun xs H Q=>∃(x:V)(tp:Addr)(t:String)(b:Bool),xs=[x,.ref tp]/\H tp=some (.tup [.ty T1,.ty T2])/\ES X.K x H t/\kitAny X.K (.type t) [.type T1,.type T2]=some b/\Q (.bl b) H):=by
 intro pz s σ H xs us Q I r h;obtain⟨x,tp,t,b,rfl,ht,ty,e,q⟩:=h;obtain⟨u,w',rfl,rx,ry⟩:=uF r;cases(show w'=Value.ref tp from ry);obtain⟨_,its,rv,⟨o,o1,o2,n,o3⟩,_⟩:=I.hok tp _ ht;obtain⟨oc,od,U,osl⟩:=o
 dsimp only at o2 o3
 subst o2 o3;cases rv with
|cons a1 t1=>cases t1 with
|cons a2 t2=>
 cases t2;cases a1;cases a2;have fin:∀tk,EP X pz σ Q (.bool b) { s with toks:=tk }:=fun tk=>⟨.bl b,H,I.tok tk,rfl,q⟩
 cases x with
|non=>cases rx;cases(show t = "NoneType" from ty);exact Qc0 kitx_none I.kIn True.intro o1 e (fun z=>nomatch z) fin
|bl y=>cases rx;cases(show t = "bool" from ty);exact Qc0 kitx_bool I.kIn True.intro o1 e (fun z=>nomatch z) fin
|int i=>obtain⟨t,rfl⟩:=rx;cases ty;exact Qc0 kitx_int I.kIn True.intro o1 e (fun z=>nomatch z) fin
|str i=>obtain⟨t,rfl⟩:=rx;cases ty;exact Qc0 kitx_str I.kIn True.intro o1 e (fun z=>nomatch z) fin
|ref p=>
  cases rx;rcases ty with⟨rfl,xs,hq⟩|⟨rfl,xs,hq⟩|⟨rfl,kvs,hq⟩
  .obtain⟨its,_,pl,_⟩:=I.list hq;obtain⟨o,ho,hc,_⟩:=pl.isList;exact Qc0 kitx_list I.kIn ⟨o,ho,hc⟩ o1 e (fun z=>nomatch z) fin
  .obtain⟨its,_,pl,_⟩:=I.tuple hq;obtain⟨o,ho,hc,_⟩:=pl;exact Qc0 kitx_tuple I.kIn ⟨o,ho,hc⟩ o1 e (fun z=>nomatch z) fin
  .obtain⟨_,_,vs,_,pp⟩:=(show du X.prog X.w H s.heap p (.dK kvs)from hq.ok I.hok)
   obtain⟨o,es,ep,h1,h2,_⟩:=pp;exact Qc0 kitx_dict I.kIn ⟨o,h1,h2.1⟩ o1 e (fun z=>nomatch z) fin
|_=>exact(show False from ty).elim
def NY{k:Nat}(hg:Gl X "isinstance")(hm:X.mg "isinstance" = none)(g1:Gl X "list")(m1:X.mg "list" = none)(g2:Gl X "tuple")(m2:X.mg "tuple" = none)(he:SB X g m e fe)(hs1:f_ [e,.Tuple [.Name "list" q1,.Name "tuple" q2] k q3] X.env=(false,eval e X.env)::f_ [.Tuple [.Name "list" q1,.Name "tuple" q2] k q3] X.env:=by rfl)(Y:f_ [.Tuple [.Name "list" q1,.Name "tuple" q2] k q3] X.env=(false,eval (.Tuple [.Name "list" q1,.Name "tuple" q2] k q3) X.env)::f_ [] X.env:=by rfl)(z:f_ [.Name "list" q1,.Name "tuple" q2] X.env=(false,eval (.Name "list" q1) X.env)::f_ [.Name "tuple" q2] X.env:=by rfl)(Z:f_ [.Name "tuple" q2] X.env=(false,eval (.Name "tuple" q2) X.env)::f_ [] X.env:=by rfl)(U:(backTo pos (f_ [.Tuple [.Name "list" q1,.Name "tuple" q2] k q3] X.env)).any (·.1)=false:=by rfl):SE X g m (.Call (.Name "isinstance" p) [e,.Tuple [.Name "list" q1,.Name "tuple" q2] k q3] [] pos) (f1 fe (sT "list" "tuple")):=by
 have hT:=Gf (x1:=k) (pos:=q3) (fO (AO (v:=.ty "list") g1 m1 rfl rfl (by decide) (by decide)) (fO (AO (v:=.ty "tuple") g2 m2 rfl rfl (by decide) (by decide)) iE Z) z);refine PE.imp (o8 (Ro (T1 := "list") (T2 := "tuple")) hg hm (by first|exact QbM|rfl) (fO he (fO hT iE Y) hs1) (by decide) (by decide) hs1 U) fun σ H Q ⟨r,G,si,q⟩=>⟨r,G,si,cn (cw q) fun d qa v G1 H1 w1 r1=>?_⟩
 obtain⟨d',e',qb⟩:=dQ qa;refine⟨by rw[J_];show 2<=16777216;decide,fun p hp=>?_⟩;have g0:=Grow.new w1.ok hp (.tup [V.ty "list",V.ty "tuple"]);unfold sT at e';cases et:jv d with
|none=>rw[et]at e';cases e'
|some t=>rw[et]at e';cases e';exact⟨v,p,t,_,rfl,cQ,GA g0.ok (r1.mono g0) et,M3 X.K d t et,qb _ G1 _ (w1.trans g0) (.scl (.bl _))⟩
end
end DL
section
namespace L2
open PySem PySem.Spec PyProof.Rows
def gI{sc:Qa1}{x:Str}(h:(match sc.names.lookup x with|some .local=>true|some .cell=>true|_=>false)=true):iN sc x:=by
 revert h;unfold iN;split <;> intro h
 .exact .inl (by assumption)
 .exact .inr (by assumption)
 .cases h
def cq{N P:List Str}{sc:Qa1}(h:(decide (sc.kind=.function) && ! sc.isCoroutine && ! sc.isGenerator&&decide N.Nodup&&decide (N.take P.length=P)&&(P.all fun x=>match sc.names.lookup x with|some .local=>true|some .cell=>true|_=>false)&&sc.names.all fun y=>decide (y.2≠.free))=true:=by decide+kernel):FnScope N P sc:=by simp only[P_,decide_eq_true_eq,Qch,Ze]at h;obtain⟨⟨⟨⟨⟨⟨a,b⟩,c⟩,d⟩,e⟩,f⟩,k⟩:=h;exact⟨a,b,c,d,e,fun x hx=>gI (f x hx),k⟩
end L2
namespace DL
open PySem PySem.Spec PyProof.Rows L2
section
variable{X:Cx}{g:GE}{m mb ms:List Md}{e a b:Expr}{es:List Expr}{f fa fb:FE}{x:Str}{p pos pos':Pos}{ro:Bool}{fl:aL->Res (List D)}{k:Nat}{ps:List Str}{F:List D->Res D}
def bE(h:SE X g m e f):SB X g m e f:=SE.toB h
def iB{i:Int}{j:Nat}:SB X g m (.Constant (.int i) j pos) fun _=>.ok (.int i):=bE dz
def xB(hu:X.A.units+1<Qag)(ha:SB X g m a fa)(hb:SB X g m b fb)(hs:vF b:=by intro _ _;rfl):SB X g m (.Subscript a b pos) (f2 fa fb bP):=bE (gN hu ha hb hs)
def dk(i:Nat)(hN:X.N.Nodup)(he:SE X g m e f)(hi:X.N[i]? = some x:=by rfl)(hx:iN X.env.scope x:=by exact gI rfl)(hs:Qaw e (some (.Name x pos')) pos.line X.env=pure false:=by rfl)(hf:X.fn x=true\/X.env.scope.names.lookup x=some .local:=by first|exact .inl rfl|exact .inr rfl|assumption):SS X g ro mb m (.Assign [.Name x pos'] e pos) (cU m i f) (m.set i .sh):=K4 i hN hi hx he hs hf
def cK(i:Nat)(hN:X.N.Nodup)(hi:X.N[i]? = some x:=by rfl)(hx:iN X.env.scope x:=by exact gI rfl)(hf:X.fn x=true\/X.env.scope.names.lookup x=some .local:=by first|exact .inl rfl|exact .inr rfl|assumption):SG X g m (.Name x pos) (bY i) (m.set i .sh):=L1 i hN hi hx hf
def aZ(c:Callee X.prog X.w X.K X.mg X.base x ps [] k false ms F)(ha:iM X g m (e::es) ms fl)(hr:Room k X.A:=by exact Room.mono ‹_› (by decide))(hg:Gl X x:=by rfl)(z:(x==("__debug__" : Str))=false:=by decide)(he:f_ (e::es) X.env=(false,eval e X.env)::f_ es X.env:=by rfl)(U:(backTo pos (f_ es X.env)).any (·.1)=false:=by rfl):SE X g m (.Call (.Name x p) (e::es) [] pos) (cg fl [] F):=Aj (dds:=[]) c hr ha (by simp) hg .nil .nil z he U
end
def cX{P:C_}{w:N_}{K:W.Frag}{mg:Str->Option Value}{base:Heap}{x:Str}{st:Stmt}{N ps:List Str}{k:Nat}{ro:Bool}{ms:List Md}{fs:FS}{m':List Md}(A:DefAt K mg x st)(S:FnScope N ps (aE st))(z:∀(f:Addr)(cdv:Value)(A:W_)(outer:List Env)(s:h_)(H:Hp)(g:GE)(E:XK),Room k (A.deeper (QaX x (aE st) s.heap.objs.size f cdv))->(A.deeper (QaX x (aE st) s.heap.objs.size f cdv)).units+1<Qag ->fU (bM cH P w K mg base N x (aE st) f cdv A outer s H E).nox g ro [] (iC N.length ms) (aO st) fs m')(U:ms.length=ps.length:=by rfl)(hb:∀(kV doc pm:Value)(an:Option Addr)(cdv ct:Value)(us:List Value),us.length=ps.length->Qbk (W.fnOf x x (aP st) (aO st) (aE st) .none kV doc pm an cdv ct) ⟨us,[]⟩=pure (ps.zip us):=by intro _ _ _ _ _ _ us hl;rcases us with _|⟨_,_|⟨_,_|⟨_,_|⟨_,_|⟨_,_|⟨_,_⟩⟩⟩⟩⟩⟩ <;> first|(exfalso;revert hl;simp;done)|kernel_rfl):Callee P w K mg base x ps [] (k+1) ro ms fun ds=>dU ro (fs (c7 N.length ds)):=Av A S U hb fun f cdv A outer s H g E hr=>z f cdv A outer s H g E hr (gT hr)
end DL
end
section
namespace Rg
def Bn{α:Type}[DecidableEq α]:∀{l m:List α},l.Nodup->(∀x∈l,x∈m)->l.length<=m.length
|[],_,_,_=>Zf _
|a::l,m,hn,hs=>by
  have hn':=Zd.mp hn;have h1:=Bn (l:=l) (m:=m.erase a) hn'.2 fun x hx=>by
   have z:x≠a:=by rintro rfl;exact hn'.1 hx
   exact(QbG z).mpr (hs x (m_ _ hx))
  have ha:a∈m:=hs a r_;rw[ZY ha]at h1;have:=List.length_pos_of_mem ha;simp only[T_];omega
structure S where
 line:List Nat
 things:List Nat
section
variable(W:Nat->List Nat)(O:Nat->Option Nat)
def best(row things:List Nat):Nat:=(row.find? fun x=>decide (x∈things)).getD 0
def it{α:Type}(f:α->α):Nat->α->α
|0,x=>x
|n+1,x=>it f n (f x)
structure Ok(s:S):Prop where
 nl:s.line.Nodup
 nt:s.things.Nodup
 le:s.line.length<=s.things.length
 row:∀h∈s.line,∀x∈s.things,x∈W h
 inj:∀h k x,O h=some x->O k=some x->h=k
 own:∀h∈s.line,∀x,O h=some x->x∈s.things
variable{W O}
def F9{row things:List Nat}(h:∃x∈row,x∈things):best row things∈things:=by unfold best;cases e:row.find? fun x=>decide (x∈things)with
|none=>obtain⟨x,h1,h2⟩:=h;have:=Qb6.mp e x h1;simp[h2]at this
|some x=>have:=List.find?_some e;simpa using this
variable{s:S}
def less(E C:List Nat):List Nat:=E.filter fun h=>decide (h∉C)
end
end Rg
end
section
namespace Rg
end Rg
end
section
namespace Rg
section
variable{W W':Nat->List Nat}{O:Nat->Option Nat}{s:S}{a b:Nat->Nat}
def Mt{row T:List Nat}{x:Nat}(hx:x∈T)(hr:x∈row):row.idxOf (best row T)<=row.idxOf x:=by unfold best;cases e:row.find? fun y=>decide (y∈T)with
|none=>have:=Qb6.mp e x hr;simp[hx]at this
|some y=>
  obtain⟨hy,as,bs,rfl,h2⟩:=List.find?_eq_some_iff_append.mp e;have n1:∀z∈as,z∉T:=fun z hz=>by have:=h2 z hz;simpa using this
  simp only[decide_eq_true_eq]at hy;have U:y∉as:=fun q=>n1 y q hy;have Y:x∉as:=fun q=>n1 x q hx;simp only[QdU];rw[QdH,QdH,if_neg U,if_neg Y];simp
end
end Rg
end
section
namespace Rg
section
variable(W:Nat->List Nat)(d:Nat->Nat)
def lP:List Nat->List Nat->Prop
|[],_=>True
|h::l,T=>best (W h) T=d h/\lP l (T.erase (d h))
def fq:List Nat->List Nat->Nat->Nat
|[],_=>fun _=>0
|h::l,T=>fun x=>if x=h then best (W h) T else fq l (T.erase (best (W h) T)) x
variable{W d}
def IT{d':Nat->Nat}:∀{o T:List Nat},(∀x∈o,d x=d' x)->lP W d o T->lP W d' o T
|[],_,_,_=>trivial
|h::l,T,e,s=>by have e1:=e h r_;exact⟨by rw[<-e1];exact s.1,by rw[<-e1];exact IT (fun x hx=>e x (m_ _ hx)) s.2⟩
def tz:∀(o T:List Nat),o.Nodup->lP W (fq W o T) o T
|[],_,_=>trivial
|h::l,T,hn=>by
  have hn':=Zd.mp hn;have e:fq W (h::l) T h=best (W h) T:=by simp[fq]
  refine⟨e.symm,?_⟩;rw[e];refine IT (fun x hx=>?_) (tz l _ hn'.2);have:x≠h:=by rintro rfl;exact hn'.1 hx
  simp[fq,this]
def F1:∀{o T:List Nat},lP W d o T->T.Nodup->o.length<=T.length->(∀h∈o,∀x∈T,x∈W h)->(∀h∈o,d h∈T)/\∀h∈o,∀l∈o,o.Nodup->d h=d l->h=l
|[],_,_,_,_,_=>⟨fun _ h=>(nomatch h),fun _ h=>(nomatch h)⟩
|a::o,T,s,hT,hl,hr=>by
  have hp:0<T.length:=by simp at hl;omega
  have hx:T[0]∈T:=Qae _;have hb:d a∈T:=by rw[<-s.1];exact F9 ⟨T[0],hr a r_ _ hx,hx⟩
  have hlen:(T.erase (d a)).length=T.length-1:=ZY hb;obtain⟨h1,h2⟩:=F1 s.2 (hT.erase _) (by rw[hlen];simp at hl;omega) fun h hh x hx=>hr h (m_ _ hh) x (QaK hx);have h3:∀h∈o,d h≠d a:=fun h hh e=>by have:=h1 h hh;rw[e]at this;exact(List.Nodup.mem_erase_iff hT).mp this |>.1 rfl
  refine⟨fun h hh=>?_,fun h hh l Y hn e=>?_⟩
  .rcases e_.mp hh with rfl|hh
   .exact hb
   .exact QaK (h1 h hh)
  .have hn':=Zd.mp hn;rcases e_.mp hh with z|Z
   .rcases e_.mp Y with z'|U
    .exact z.trans z'.symm
    .subst z;exact absurd e.symm (h3 l U)
   .rcases e_.mp Y with z'|U
    .subst z';exact absurd e (h3 h Z)
    .exact h2 h Z l U hn'.2 e
end
end Rg
end
section
namespace Rg
end Rg
end
section
namespace Rg
end Rg
end
section
namespace Rg
end Rg
end
section
namespace Rg
end Rg
end
section
namespace Rg
section
variable{W:Nat->List Nat}{d:Nat->Nat}
def lk(W:Nat->List Nat)(h x y:Nat):Prop:=(W h).idxOf x<(W h).idxOf y
instance (W:Nat->List Nat) (h x y:Nat):Decidable (lk W h x y):=by unfold lk;infer_instance
def env(W:Nat->List Nat)(d:Nat->Nat)(h:Nat)(others:List Nat):List Nat:=others.filter fun o=>decide (lk W h (d o) (d h))
def stay(W:Nat->List Nat)(d:Nat->Nat)(hands:List Nat):List Nat:=hands.filter fun h=>!(env W d h hands).isEmpty
end
end Rg
end
section
namespace Rg
def ID:∀{l m:List Nat},l.Nodup->(∀x∈l,x∈m)->m.length<=l.length->l.Perm m
|[],m,_,_,hl=>by have:m=[]:=List.eq_nil_of_length_eq_zero (by simpa using hl);rw[this]
|a::l,m,hn,hs,hl=>by
  have hn':=Zd.mp hn;have ha:=hs a r_;refine List.Perm.trans ?_ (List.perm_cons_erase ha).symm;refine List.Perm.cons a (ID hn'.2 (fun x hx=>?_) ?_)
  .have:x≠a:=by rintro rfl;exact hn'.1 hx
   exact(QbG this).mpr (hs x (m_ _ hx))
  .rw[ZY ha];simp at hl;omega
end Rg
end
namespace Law
open PySem PySem.Spec PyProof.Rows L2 DL
abbrev gv(i:Nat):DL.FE:=fun r=>DL.c8 r i
abbrev ci(i:Int):DL.FE:=fun _=>.ok (.int i)
abbrev q0:List DL.Md:=[.bw,.bw]
abbrev cL:List DL.Md:=[.sh,.sh]
abbrev cN:List DL.Md:=[.bw,.bw,.bw]
abbrev dC:List DL.Md:=[.sh,.sh,.sh]
abbrev fw:List DL.Md:=[.bw,.bw,.sh,.sh]
abbrev fR:List DL.Md:=[.bw,.bw,.bw,.bw]
abbrev gH:List DL.Md:=[.bw,.bw,.bw,.sh,.sh,.sh,.sh]
abbrev gX:List DL.Md:=[.sh,.sh,.ow,.bw,.sh,.sh,.sh,.sh]
abbrev im:List DL.Md:=[.bw,.bw,.sh]
abbrev il:List DL.Md:=[.sh,.sh,.sh,.sh,.sh,.sh,.sh,.sh,.sh,.sh,.ow,.sh,.sh]
abbrev jJ:List DL.Md:=[.sh,.bw,.ow,.sh]
abbrev jI:List DL.Md:=[.bw,.bw,.ow,.sh,.sh]
abbrev kT:List DL.Md:=[.sh,.sh,.sh,.sh,.sh,.bw,.sh,.sh,.sh]
abbrev kS:List DL.Md:=[.sh,.sh,.ow,.ow,.sh]
abbrev kR:List DL.Md:=[.bw,.sh,.sh,.bw,.sh,.sh]
abbrev ny:List DL.Md:=[.bw,.bw,.ow,.ow,.sh]
abbrev nv:List DL.Md:=[.sh,.sh,.sh,.sh,.sh,.sh,.sh,.sh,.sh]
abbrev nu:List DL.Md:=[.sh,.sh,.ow,.sh,.sh,.sh,.sh,.sh]
def Ft{α:Type}(us:List α)(h:us.length=1):∃a0,us=[a0]:=by match us,h with
|[_],_=>exact⟨_,rfl⟩
def l0{α:Type}(us:List α)(h:us.length=2):∃a0 a1,us=[a0,a1]:=by match us,h with
|[_,_],_=>exact⟨_,_,rfl⟩
def lp{α:Type}(us:List α)(h:us.length=3):∃a0 a1 a2,us=[a0,a1,a2]:=by match us,h with
|[_,_,_],_=>exact⟨_,_,_,rfl⟩
def top(i:Nat):Stmt:=QbH.main.body.getD i (.Pass ⟨0,0,0,0⟩)
structure Txt(K:W.Frag)(mg:Str->Option Value):Prop where
 b_range:mg "range" = none
 b_tuple:mg "tuple" = none
 b_len:mg "len" = none
 b_list:mg "list" = none
 b_int:mg "int" = none
 b_enumerate:mg "enumerate" = none
 b_isinstance:mg "isinstance" = none
 b_bool:mg "bool" = none
 b_zip:mg "zip" = none
 b_all:mg "all" = none
 b_abs:mg "abs" = none
 b_any:mg "any" = none
 b_set:mg "set" = none
 k_NOUGHT:∃a,mg "NOUGHT" = some (.ref a)/\KC K a (.tup [.int 0,.int 1])
 k_ONE:∃a,mg "ONE" = some (.ref a)/\KC K a (.tup [.int 1,.int 1])
def BB:Str->Bool:=fun nm=>(["NoOrder"]:List Str).contains nm
def oF:Str->Bool:=fun nm=>(["Goes"]:List Str).contains nm
def kr:Str->Bool:=fun nm=>(["Goes","Handing"]:List Str).contains nm
def jB:Str->Bool:=fun nm=>(["Ordered"]:List Str).contains nm
def nW:Str->Bool:=fun nm=>(["Betters"]:List Str).contains nm
def oY:Str->Bool:=fun nm=>(["Rising"]:List Str).contains nm
def pW:Str->Bool:=fun nm=>(["Handing"]:List Str).contains nm
def oM:Str->Bool:=fun nm=>(["Parted"]:List Str).contains nm
abbrev lC:Stmt:=L8 (top 4)
def Tj:FnScope ["self","at"] ["self","at"] (aE lC):=cq
def OU:∀(kV doc pm:Value)(an:Option Addr)(cdv ct:Value)(us:List Value),us.length=([("self" : Str),"at"]).length->Qbk (W.fnOf "__init__" "NoOrder.__init__" (aP lC) (aO lC) (aE lC) .none kV doc pm an cdv ct) ⟨us,[]⟩=pure (([("self" : Str),"at"]).zip us):=fun _ _ _ _ _ _ us hl=>by obtain⟨u0,u1,rfl⟩:=l0 us hl;kernel_rfl
def Oa{P:C_}{w:N_}{K:W.Frag}{mg:Str->Option Value}{C T fI:Addr}{bm:List Value}{fd:Zt}(F:Fun K "__init__" "NoOrder.__init__" lC fI fd)(xi:XI K C bm "at")(hm:mg "TradeError" = some (.ref T))(hT:XT K T)(base:Heap):FnOk P w K mg base cH 1 fI fd ["self","at"] (yK C "at"):=Ob (k:=0) F Tj xi fun cdv A outer s H E=>o9 (uZ (Pg (by rfl) hm hT (fO (gP (i:=0) rfl (dg rfl)) (fO (LG (c:=cI) (MO (MM (j:=1) rfl (dg rfl) MN (fun _ h=>h))) (by decide+kernel)) iE)))) (Pp (Po (gP (i:=0) rfl (dg rfl)) (gP (i:=1) rfl (dg rfl))))
abbrev BJ:Stmt:=top 69
abbrev Jq:List Str:=["_law_cell_here","_law_m","_law_row_here","_law_thing"]
abbrev qO:List Str:=["_law_cell_here","_law_m"]
def wU:FnScope Jq qO (aE BJ):=cq
abbrev JT:FS:=(seqF (f8 "list" jJ 2 (aJ (f2 (gv 0) (f2 (gv 3) (ci 1) addA) dm) (aJ (gv 3) aH)) insD) (seqF (cU jJ 0 (f2 (gv 0) (f2 (gv 3) (ci 1) addA) pO)) cG))
def B2:FS:=(seqF (cU [.sh,.bw,.sh,.sh] 2 (ig aH)) (seqF (lT jJ (fE eO (aJ (gv 1) aH)) (bY 3) JT) (seqF (retF jJ (fC (aJ (gv 2) aH) tupD)) cG)))
def pq:List D->Res D:=fun ds=>dU false (B2 (c7 Jq.length ds))
variable{P:C_}{w:N_}{K:W.Frag}{mg:Str->Option Value}{base:Heap}
def yZ(T:Txt K mg)(A:DefAt K mg "_law_row" BJ):Callee P w K mg base "_law_row" qO [] 1 false [.sh,.bw] pq:=
 cX (m':=jJ) A wU fun f cdv A outer s H g E hr hu1=>(aM (ji 2 wU.nd (by rfl) (gI rfl) (gM bZ))
   (aM (li S_ rfl (jp (by rfl) T.b_range (bK (aI 1) bJ)) (cK 3 wU.nd) (aM (lW 2 rfl Za Qci PySem.F.type_list_insert RL Nj (by rfl) (dg rfl) (aV (jg (aI 0) (bE (gU (aI 3) iB))) (aV (v_ 3) bZ)))
   (aM (dk 0 wU.nd (NV (aI 0) (bE (gU (aI 3) iB))))
   aQ)))
   (aM (bQ (jl (by rfl) T.b_tuple (bK (aI 2) bJ)))
   aQ)))
abbrev Ce:Stmt:=top 68
abbrev JH:List Str:=["_law_script","_law_k","_law_cell_here","_law_stirred"]
abbrev pB:List Str:=["_law_script","_law_k"]
def xN:FnScope JH pB (aE Ce):=cq
def wE:FS:=(seqF (cU fw 2 (ci 0)) (seqF (gy fw (dY (f2 (gv 1) (fC (aJ (gv 0) aH) lenD) lO)) (seqF (cU fw 2 (f2 (f2 (gv 0) (gv 1) bP) (f2 (ci 10) (ci 60) io) dm)) cG) cG) (seqF (gy fw (iq (dY (f2 (fC (aJ (gv 0) aH) lenD) (ci 0) nC)) (dY (f2 (f2 (f2 (gv 0) (ci 0) bP) (ci 2) dm) (ci 0) eqD))) (seqF (retF fw (gv 2)) cG) cG) (seqF (cU fw 3 (f2 (f2 (f2 (f2 (f2 (f2 (f2 (gv 2) (f2 (f2 (ci 7) (gv 1) d5) (gv 1) d5) addA) (f2 (ci 13) (gv 1) d5) addA) (ci 5) addA) (ci 48271) d5) (ci 2147483647) dm) (ci 69621) d5) (ci 1000000007) dm)) (seqF (retF fw (f2 (f2 (f2 (f2 (f2 (gv 3) (ci 1) addA) (ci 40692) d5) (ci 2147483629) dm) (ci 39373) d5) (ci 999999937) dm)) cG)))))
def j4:List D->Res D:=fun ds=>dU false (wE (c7 JH.length ds))
def tW(T:Txt K mg)(A:DefAt K mg "_law_cell" Ce):Callee P w K mg base "_law_cell" pB [] 1 false q0 j4:=
 cX (m':=fw) A xN fun f cdv A outer s H g E hr hu1=>have hu64:=hr.units;(aM (dk 2 xN.nd dz)
   (aM (cj (kQ (aI 1) (bE (dP (by rfl) T.b_len (bK (aI 0) bJ)))) (aM (dk 2 xN.nd (jg (xB hu1 (aI 0) (aI 1)) (bE (FK iB iB))))
   aQ)
   aQ)
   (aM (cj (SW.toQ (FO (sP (bE (dP (by rfl) T.b_len (bK (aI 0) bJ))) iB) (Gi (jH hu64 (bE (jg (xB hu1 (aI 0) iB) iB)) iB)))) (aM (bQ (v_ 2))
   aQ)
   aQ)
   (aM (dk 3 xN.nd (jg (bE (lj (bE (jg (bE (lj (bE (gU (bE (gU (bE (gU (aI 2) (bE (lj (bE (lj iB (aI 1))) (aI 1))))) (bE (lj iB (aI 1))))) iB)) iB)) iB)) iB)) iB))
   (aM (bQ (jg (bE (lj (bE (jg (bE (lj (bE (gU (aI 3) iB)) iB)) iB)) iB)) iB))
   aQ)))))
abbrev rK:Stmt:=top 70
abbrev rB:List Str:=["_law_script","_law_at","_law_n","_law_m"]
abbrev xG:List Str:=["_law_script","_law_at","_law_n","_law_m"]
def J8:FnScope rB xG (aE rK):=cq
def aX(b:Bool)(N:List Str)(B:FS):List D->Res D:=fun ds=>dU b (B (c7 N.length ds))
def cf{b:Bool}{N:List Str}{B:FS}{n:Nat}{ds:List D}{d:D}(h:B (c7 n ds)=.rt d)(hn:n=N.length:=by rfl):aX b N B ds=.ok d:=by subst hn;show dU b (B (c7 N.length ds))=_;rw[h];cases b <;> rfl
def BU:{B // ∀{P w K mg base} (T:Txt K mg) (A:DefAt K mg "_law_wishes" rK) (c__law_cell:Callee P w K mg base "_law_cell" pB [] 1 false q0 j4) (c__law_row:Callee P w K mg base "_law_row" qO [] 1 false [.sh,.bw] pq),Callee P w K mg base "_law_wishes" xG [] 2 false fR (aX false rB B)}:=⟨_,fun{P w K mg base} T A c__law_cell c__law_row=>
 cX (m':=fR) A J8 fun f cdv A outer s H g E hr hu1=>(aM (bQ (jl (by rfl) T.b_tuple (bK (SO.toB (fT (X:=(bM cH P w K mg base rB "_law_wishes" (aE rK) f cdv A outer s H E).nox) (N':=["_law_hand","_law_m","_law_script","_law_at"]) (nl:=1) (cap:=[3,0,1]) J8.nd rfl (d9 (osc:=(aE rK)) (ON:=rB) rfl rfl (by decide+kernel)) (iw.toC (jp (by rfl) T.b_range (bK (aI 2) bJ))) (fun _ _ _ _ _ _=>(cK 0 (show I_ (["_law_hand","_law_m","_law_script","_law_at"]:List Str)by decide+kernel))) (dI (by decide)) (fun _ _ _ _ _ _=>fm) (fun _ _ _ _ _ _=>(aZ c__law_row (bF (aZ c__law_cell (aG (aI 2) (aG (bE (gU (aI 3) (aI 0))) aR))) (aG (aI 1) aR)))))) bJ)))
   aQ)⟩
def J5:=BU.1
def CJ:=aX false rB J5
abbrev Cd:Stmt:=top 71
abbrev Ck:List Str:=["_law_row_here","_law_left","_law_thing"]
abbrev Cr:List Str:=["_law_row_here","_law_left"]
def J6:FnScope Ck Cr (aE Cd):=cq
abbrev xF:FS:=(seqF (gy im (dY (f2 (gv 2) (gv 1) jN)) (seqF (retF im (gv 2)) cG) cG) cG)
def Bs:{B // ∀{P w K mg base} (T:Txt K mg) (A:DefAt K mg "_law_best" Cd),Callee P w K mg base "_law_best" Cr [] 1 false q0 (aX false Ck B)}:=⟨_,fun T A=>
 cX (m':=im) A J6 fun f cdv A outer s H g E hr hu1=>(aM (AB S_ rfl (fj (aI 0)) (fun _=>(cK 2 J6.nd)) (fun _=>(aM (cj (nr hu1 (aI 2) (aI 1)) (aM (bQ (v_ 2))
   aQ)
   aQ)
   aQ)))
   (aM (bQ kl)
   aQ))⟩
def Jz:=Bs.1
def wG:=aX false Ck Jz
abbrev rQ:Stmt:=top 72
abbrev rR:List Str:=["_law_wishes_here","_law_order","_law_things","_law_got","_law_hand"]
abbrev pF:List Str:=["_law_wishes_here","_law_order"]
def yB:FnScope rR pF (aE rQ):=cq
abbrev Uz:FS:=(seqF (putF ny 3 (gv 4) (cg (aJ (f2 (gv 0) (gv 4) bP) (aJ (gv 2) aH)) [] wG)) (seqF (f8 "list" ny 2 (aJ (f2 (gv 3) (gv 4) bP) aH) remD) cG))
def DN:{B // ∀{P w K mg base} (T:Txt K mg) (A:DefAt K mg "_law_order_dealt" rQ) (c__law_best:Callee P w K mg base "_law_best" Cr [] 1 false q0 wG),Callee P w K mg base "_law_order_dealt" pF [] 2 false q0 (aX false rR B)}:=⟨_,fun{P w K mg base} T A c__law_best=>
 cX (m':=ny) A yB fun f cdv A outer s H g E hr hu1=>(aM (ji 2 yB.nd (by rfl) (gI rfl) (qr rfl (by rfl) T.b_list (by rfl) T.b_range (bK (bE (dP (by rfl) T.b_len (bK (xB hu1 (aI 0) iB) bJ))) bJ)))
   (aM (pi 3 (X:=(bM cH P w K mg base rR "_law_order_dealt" (aE rQ) f cdv A outer s H E).nox) (m:=jI) (N':=["_law_hand"]) (nl:=1) (cap:=[]) yB.nd rfl (by rfl) (by rfl) (d9 (osc:=(aE rQ)) (ON:=rR) rfl rfl (by decide+kernel)) (fj (aI 1)) (fun _ _ _ _ _ _=>(cK 0 (show I_ (["_law_hand"]:List Str)by decide+kernel))) (dI (by decide)) (fun _ _ _ _ _ _=>fm) (fun _ _ _ _ _ _=>kl))
   (aM (uL S_ rfl (GD (yH 1)) (cK 4 yB.nd) (aM (n6 3 hu1 rfl (by rfl) (dg rfl) (aI 4) (aZ c__law_best (aG (xB hu1 (aI 0) (aI 4)) (aG (aI 2) aR))))
   (aM (lW 2 rfl Za Qa5 Qcl Jl Gk (by rfl) (dg rfl) (aV (gN hu1 (aI 3) (aI 4)) bZ))
   aQ)))
   (aM (bQ (jl (by rfl) T.b_tuple (bK (aI 3) bJ)))
   aQ))))⟩
def Kj:=DN.1
def lK:=aX false rR Kj
abbrev rn:Stmt:=top 73
abbrev q9:List Str:=["_law_dealing","_law_n","_law_rows","_law_thing"]
abbrev wW:List Str:=["_law_dealing","_law_n"]
def xO:FnScope q9 wW (aE rn):=cq
abbrev TZ:FS:=(seqF (f8 "list" [.bw,.bw,.ow,.sh] 2 (aJ (fC (aJ (eR 1 [3] (fE eO (aJ (gv 1) aH)) (bY 0) (fun _=>Res.ok true) (cz (aJ (fC (aJ (f2 (gv 1) (gv 0) eqD) aH) pU) (aJ (ci 1) aH)))) aH) tupD) aH) appD) cG)
def vH:{B // ∀{P w K mg base} (T:Txt K mg) (A:DefAt K mg "_law_sure" rn),Callee P w K mg base "_law_sure" wW [] 1 false q0 (aX false q9 B)}:=⟨_,fun{P w K mg base} T A=>
 cX (m':=[.bw,.bw,.ow,.sh]) A xO fun f cdv A outer s H g E hr hu1=>have hu64:=hr.units;(aM (ji 2 xO.nd (by rfl) (gI rfl) (gM bZ))
   (aM (uL S_ rfl (GD (yH 0)) (cK 3 xO.nd) (aM (lW 2 rfl Za ZW ZX pf uO (by rfl) (dg rfl) (aV (jl (by rfl) T.b_tuple (bK (SO.toB (fT (X:=(bM cH P w K mg base q9 "_law_sure" (aE rn) f cdv A outer s H E).nox) (N':=["_law_one","_law_thing"]) (nl:=1) (cap:=[3]) xO.nd rfl (d9 (osc:=(aE rn)) (ON:=q9) rfl rfl (by decide+kernel)) (iw.toC (jp (by rfl) T.b_range (bK (aI 1) bJ))) (fun _ _ _ _ _ _=>(cK 0 (show I_ (["_law_one","_law_thing"]:List Str)by decide+kernel))) (dI (by decide)) (fun _ _ _ _ _ _=>fm) (fun _ _ _ _ _ _=>(cS (aV (NX (by rfl) T.b_int (bK (bE (fu hu64 (aI 1) (aI 0))) bJ)) (aV dz bZ)))))) bJ)) bZ))
   aQ))
   (aM (bQ (jl (by rfl) T.b_tuple (bK (aI 2) bJ)))
   aQ)))⟩
def JC:=vH.1
def Ci:=aX false q9 JC
abbrev rF:Stmt:=top 75
abbrev rW:List Str:=["_law_wishes_here","_law_order","_law_n","_law_found","_law_dealing","_law_at","_law_hand"]
abbrev Dj:List Str:=["_law_wishes_here","_law_order","_law_n"]
def se:FnScope rW Dj (aE rF):=cq
abbrev Us:FS:=(seqF (putF [.bw,.bw,.bw,.ow,.sh,.sh,.sh] 3 (f2 (gv 4) (gv 6) bP) (f2 (gv 2) (gv 5) iV)) cG)
def Cw:{B // ∀{P w K mg base} (T:Txt K mg) (A:DefAt K mg "_law_heights" rF) (c__law_order_dealt:Callee P w K mg base "_law_order_dealt" pF [] 2 false q0 lK),Callee P w K mg base "_law_heights" Dj [] 3 true cN (aX true rW B)}:=⟨_,fun{P w K mg base} T A c__law_order_dealt=>
 cX (m':=[.bw,.bw,.bw,.ow,.sh,.sh,.sh]) A se fun f cdv A outer s H g E hr hu1=>(aM (pi 3 (X:=(bM cH P w K mg base rW "_law_heights" (aE rF) f cdv A outer s H E).nox) (m:=gH) (N':=["_law_hand"]) (nl:=1) (cap:=[]) se.nd rfl (by rfl) (by rfl) (d9 (osc:=(aE rF)) (ON:=rW) rfl rfl (by decide+kernel)) (fj (aI 1)) (fun _ _ _ _ _ _=>(cK 0 (show I_ (["_law_hand"]:List Str)by decide+kernel))) (dI (by decide)) (fun _ _ _ _ _ _=>fm) (fun _ _ _ _ _ _=>dz))
   (aM (dk 4 se.nd (aZ c__law_order_dealt (aG (aI 0) (aG (aI 1) aR))))
   (aM (uL S_ rfl (HA (by rfl) T.b_enumerate (yH 1)) (ke rfl (gO (cK 5 se.nd) (gO (cK 6 se.nd) kb))) (aM (n6 3 hu1 rfl (by rfl) (dg rfl) (xB hu1 (aI 4) (aI 6)) (zN (aI 2) (aI 5)))
   aQ))
   (aM (N0 3 rfl (by rfl) (dg rfl))
   aQ))))⟩
def J9:=Cw.1
def xU:=aX true rW J9
abbrev lB:Stmt:=top 26
abbrev oV:List Str:=["value"]
abbrev j3:List Str:=["value"]
def vU:FnScope oV j3 (aE lB):=cq
def mG(Fr:List D->Res D):FS:=(seqF (gy [Md.bw] (cW (f1 (gv 0) (jM "list"))) (seqF (retF [Md.bw] (eR 1 [] (bS cZ (gv 0)) (bY 0) (fun _=>Res.ok true) (cg (aJ (gv 0) aH) [] Fr))) cG) cG) (seqF (gy [Md.bw] (cW (f1 (gv 0) (jM "tuple"))) (seqF (retF [Md.bw] (fC (aJ (eR 1 [] (bS cZ (gv 0)) (bY 0) (fun _=>Res.ok true) (cg (aJ (gv 0) aH) [] Fr)) aH) tupD)) cG) cG) (seqF (sF [Md.bw] (gv 0)) cG)))
def jn:Nat->List D->Res D
|0=>fun ds=>dU false (Out.stuck)
|n+1=>fun ds=>dU false (mG (jn n) (c7 oV.length ds))
abbrev gV:List D->Res D:=jn 6
def Jt(T:Txt K mg)(A:DefAt K mg "copied" lB):∀n,Callee P w K mg base "copied" j3 [] (n+1) false [Md.bw] (jn n)
|0=>Av (k:=0) (ms:=[Md.bw]) (fs:=fun _=>Out.stuck) (m':=[Md.bw]) A vU rfl (fun _ _ _ _ _ _ us hl=>by obtain⟨u0,rfl⟩:=Ft us hl;kernel_rfl) fun f cdv A outer s H g E hr=>⟨rfl,vN.2⟩
|n+1=>by
  have cr:Callee P w K mg base "copied" j3 [] (n+1) false [Md.bw] (jn n):=Jt T A n;refine Av (k:=n+1) (ms:=[Md.bw]) (fs:=mG (jn n)) (m':=[Md.bw]) A vU rfl (fun _ _ _ _ _ _ us hl=>by obtain⟨u0,rfl⟩:=Ft us hl;kernel_rfl) fun f cdv A outer s H g E hr=>?_;have hu1:=gT hr;have hu64:=hr.units;exact(aM (cj (dA (bE (n5 "list" "list" rfl (QZ _) (by rfl) T.b_isinstance (by rfl) T.b_list (aI 0)))) (aM (bQ (SO.toE (fT (X:=(bM cH P w K mg base oV "copied" (aE lB) f cdv A outer s H E).nox) (N':=["one"]) (nl:=1) (cap:=[]) vU.nd rfl (d9 (osc:=(aE lB)) (ON:=oV) rfl rfl (by decide+kernel)) (fj (aI 0)) (fun _ _ _ _ _ _=>(cK 0 (show I_ (["one"]:List Str)by decide+kernel))) (dI (by decide)) (fun _ _ _ _ _ _=>fm) (fun _ _ _ _ _ _=>(Aj (dds:=[]) cr (hr.mono (by omega)) (aG (aI 0) aR))))))
   aQ)
   aQ)
   (aM (cj (dA (bE (n5 "tuple" "tuple" rfl (Jj _) (by rfl) T.b_isinstance (by rfl) T.b_tuple (aI 0)))) (aM (bQ (jl (by rfl) T.b_tuple (bK (SO.toB (fT (X:=(bM cH P w K mg base oV "copied" (aE lB) f cdv A outer s H E).nox) (N':=["one"]) (nl:=1) (cap:=[]) vU.nd rfl (d9 (osc:=(aE lB)) (ON:=oV) rfl rfl (by decide+kernel)) (fj (aI 0)) (fun _ _ _ _ _ _=>(cK 0 (show I_ (["one"]:List Str)by decide+kernel))) (dI (by decide)) (fun _ _ _ _ _ _=>fm) (fun _ _ _ _ _ _=>(Aj (dds:=[]) cr (hr.mono (by omega)) (aG (aI 0) aR))))) bJ)))
   aQ)
   aQ)
   (aM (NZ (aI 0))
   aQ)))
def nS(T:Txt K mg)(A:DefAt K mg "copied" lB):Callee P w K mg base "copied" j3 [] 7 false [Md.bw] gV:=Jt T A 6
abbrev mz:Stmt:=jk (top 62) 0
abbrev JV:List Str:=["self","order"]
abbrev rP:List Str:=["self","order"]
def TW:FnScope JV rP (aE mz):=cq
def C7:FN:=(d6 "order" (cg (aJ (gv 1) aH) [] gV) (fun _ ds=>Res.ok ds))
def jq:jV:=fun ds=>C7 (none::(ds.map some++d_ (JV.length-(ds.length+1)) none)) []
def QK(T:Txt K mg)(A:MakeAt K mg "Ordered" "Ordered" "Ordered.__init__" mz)(z:Callee P w K mg base "copied" j3 [] 7 false [Md.bw] gV)(fo_order:dh K "order" jB):CalleeN P w K mg base "Ordered" "Ordered" rP [] 8 [Md.bw] jq:=by refine oO (k:=7) (fn:=C7) A TW rfl (fun _ _ _ _ _ _ us hl=>by obtain⟨u0,u1,rfl⟩:=l0 us hl;kernel_rfl) fun C xn f cdv A outer s H g E hr=>?_;have hu1:=gT hr;have hu64:=hr.units;exact(ly (fo_order "Ordered" C rfl xn).1 (fo_order "Ordered" C rfl xn).2 rfl (dg rfl) (aZ z (aG (aI 1) aR)) nX)
abbrev mr:Stmt:=jk (top 64) 0
abbrev JJ:List Str:=["self","heights"]
abbrev rj:List Str:=["self","heights"]
def Tz:FnScope JJ rj (aE mr):=cq
def CB:FN:=(d6 "heights" (cg (aJ (gv 1) aH) [] gV) (fun _ ds=>Res.ok ds))
def iI:jV:=fun ds=>CB (none::(ds.map some++d_ (JJ.length-(ds.length+1)) none)) []
def P9(T:Txt K mg)(A:MakeAt K mg "Rising" "Rising" "Rising.__init__" mr)(z:Callee P w K mg base "copied" j3 [] 7 false [Md.bw] gV)(fo_heights:dh K "heights" oY):CalleeN P w K mg base "Rising" "Rising" rj [] 8 [Md.bw] iI:=by refine oO (k:=7) (fn:=CB) A Tz rfl (fun _ _ _ _ _ _ us hl=>by obtain⟨u0,u1,rfl⟩:=l0 us hl;kernel_rfl) fun C xn f cdv A outer s H g E hr=>?_;have hu1:=gT hr;have hu64:=hr.units;exact(ly (fo_heights "Rising" C rfl xn).1 (fo_heights "Rising" C rfl xn).2 rfl (dg rfl) (aZ z (aG (aI 1) aR)) nX)
abbrev mq:Stmt:=jk (top 66) 0
abbrev JI:List Str:=["self","parts"]
abbrev rh:List Str:=["self","parts"]
def Tx:FnScope JI rh (aE mq):=cq
def CA:FN:=(d6 "parts" (cg (aJ (gv 1) aH) [] gV) (fun _ ds=>Res.ok ds))
def js:jV:=fun ds=>CA (none::(ds.map some++d_ (JI.length-(ds.length+1)) none)) []
def P8(T:Txt K mg)(A:MakeAt K mg "Parted" "Parted" "Parted.__init__" mq)(z:Callee P w K mg base "copied" j3 [] 7 false [Md.bw] gV)(fo_parts:dh K "parts" oM):CalleeN P w K mg base "Parted" "Parted" rh [] 8 [Md.bw] js:=by refine oO (k:=7) (fn:=CA) A Tx rfl (fun _ _ _ _ _ _ us hl=>by obtain⟨u0,u1,rfl⟩:=l0 us hl;kernel_rfl) fun C xn f cdv A outer s H g E hr=>?_;have hu1:=gT hr;have hu64:=hr.units;exact(ly (fo_parts "Parted" C rfl xn).1 (fo_parts "Parted" C rfl xn).2 rfl (dg rfl) (aZ z (aG (aI 1) aR)) nX)
abbrev rm:Stmt:=top 77
abbrev q8:List Str:=["_law_script","_law_wishes_here","_law_order","_law_n","_law_dealing","_law_lists","_law_dues","_law_papers","_law_one"]
abbrev Cs:List Str:=["_law_script","_law_wishes_here","_law_order","_law_n"]
def pA:FnScope q8 Cs (aE rm):=cq
def Bt:{B // ∀{P w K mg base} (T:Txt K mg) (A:DefAt K mg "_law_kept" rm) (c__law_order_dealt:Callee P w K mg base "_law_order_dealt" pF [] 2 false q0 lK) (c__law_heights:Callee P w K mg base "_law_heights" Dj [] 3 true cN xU) (c_mk_Parted:CalleeN P w K mg base "Parted" "Parted" rh [] 8 [Md.bw] js) (c_mk_Rising:CalleeN P w K mg base "Rising" "Rising" rj [] 8 [Md.bw] iI) (c_mk_Ordered:CalleeN P w K mg base "Ordered" "Ordered" rP [] 8 [Md.bw] jq) (fo_parts:dh K "parts" oM) (fo_heights:dh K "heights" oY) (fo_order:dh K "order" jB),Callee P w K mg base "_law_kept" Cs [] 10 false [.sh,.sh,.sh,.sh] (aX false q8 B)}:=⟨_,fun{P w K mg base} T A c__law_order_dealt c__law_heights c_mk_Parted c_mk_Rising c_mk_Ordered fo_parts fo_heights fo_order=>
 cX (m':=nv) A pA fun f cdv A outer s H g E hr hu1=>have hu64:=hr.units;(aM (dk 4 pA.nd (aZ c__law_order_dealt (aG (aI 1) (aG (aI 2) aR))))
   (Gu (i:=5) (by rfl) (PB 5 (m:=nv) (by decide) pA.nd (by rfl) (gI rfl) (l8 (by rfl) T.b_list (bK (aI 2) bJ)) (OG (dds:=[]) c__law_heights (hr.mono (by decide)) (aG (aI 1) (aG (aI 2) (aG (aI 3) aR)))) (gM (aV (cS (aV (cS (aV dz (aV dz bZ))) (aV (v_ 4) bZ))) bZ)))
   (mI (by rfl) (HP (j:=6) (by decide) rfl (lg (by decide)) (fun _=>JL 6 (X:=(bM cH P w K mg base q8 "_law_kept" (aE rm) f cdv A outer s H E).nox) (m:=nv) (N':=["_law_one"]) (nl:=1) (cap:=[]) pA.nd rfl (by rfl) (by rfl) (d9 (osc:=(aE rm)) (ON:=q8) rfl rfl (by decide+kernel)) (fj (aI 5)) (fun _ _ _ _ _ _=>(cK 0 (show I_ (["_law_one"]:List Str)by decide+kernel))) (dI (by decide)) (fun _ _ _ _ _ _=>fm) (fun _ _ _ _ _ _=>(l8 (by rfl) T.b_list (bK (aI 0) bJ)))))
   (mI (by rfl) (AU (ro:=false) (mb:=kT) (m:=kT) (m':=kT) (s1:=fun ws=>(cU kT 7 (ig (aJ (dO "Ordered" (aJ (eD ws (ci 0)) aH) [] jq) (aJ (dO "Rising" (aJ (eD ws (ci 1)) aH) [] iI) (aJ (dO "Parted" (aJ (eD ws (ci 2)) aH) [] js) aH)))))) (fun _ ws hR=>(dk 7 pA.nd (SO.toE (gM (aV (fL (dds:=[]) c_mk_Ordered (hr.mono (by decide)) (aG (nV hR rfl (by rfl) (dg rfl) dz) aR)) (aV (fL (dds:=[]) c_mk_Rising (hr.mono (by decide)) (aG (nV hR rfl (by rfl) (dg rfl) dz) aR)) (aV (fL (dds:=[]) c_mk_Parted (hr.mono (by decide)) (aG (nV hR rfl (by rfl) (dg rfl) dz) aR)) bZ))))))) (by rfl))
   (mI (by rfl) (IJ (jr:=8) S_ rfl (by rfl) (by rfl) pA.nd (by rfl) (dg rfl) (by rfl) (gI rfl) (uT (Gq (lg (by decide)) (by rfl) (dg rfl)) (uT (Gp (lg (by decide)) (by rfl) (dg rfl) (fun _=>dz)) Gs)))
   (HV (aM (cj (gW hu64 (SO.toB (gM (aV (gC fo_order (xB hu1 (aI 7) iB)) (aV (gC fo_heights (xB hu1 (aI 7) iB)) (aV (gC fo_parts (xB hu1 (aI 7) iB)) bZ))))) (aI 6)) (aM (bQ kl)
   aQ)
   aQ)
   (aM (bQ (v_ 7))
   aQ)) (lg (by decide))))))))⟩
def JA:=Bt.1
def JG:=aX false q8 JA
abbrev BV:Stmt:=top 74
abbrev CL:List Str:=["_law_wishes_here","_law_dealing","_law_n","_law_one","_law_other","_law_rows","_law_some"]
abbrev CT:List Str:=["_law_wishes_here","_law_dealing","_law_n"]
def rE:FnScope CL CT (aE BV):=cq
abbrev rV:FS:=(seqF (cU gH 5 (ig (aJ (f2 (gv 0) (gv 3) bP) (aJ (f2 (gv 0) (gv 4) bP) aH)))) (seqF (gy gH (dY (f2 (fM "tuple" (f2 (gv 5) (ci 0) bP) (aJ (f2 (gv 1) (gv 3) bP) aH) mw) (fM "tuple" (f2 (gv 5) (ci 0) bP) (aJ (f2 (gv 1) (gv 4) bP) aH) mw) lO)) (seqF (gy gH (dY (f2 (fM "tuple" (f2 (gv 5) (ci 1) bP) (aJ (f2 (gv 1) (gv 4) bP) aH) mw) (fM "tuple" (f2 (gv 5) (ci 1) bP) (aJ (f2 (gv 1) (gv 3) bP) aH) mw) lO)) (seqF (cU gH 6 (fC (aJ (gv 1) aH) ki)) (seqF (kK [.bw,.bw,.bw,.sh,.sh,.sh,.ow] 6 (cz (aJ (f2 (gv 1) (gv 4) bP) (aJ (f2 (gv 1) (gv 3) bP) aH))) (gv 3) (gv 4)) (seqF (retF [.bw,.bw,.bw,.sh,.sh,.sh,.ow] (cz (aJ (fC (aJ (gv 6) aH) tupD) (aJ (cz (aJ (fun _=>Res.ok (D.str "ring")) (aJ (cz (aJ (gv 3) (aJ (gv 4) aH))) aH))) aH)))) cG))) cG) cG) cG) cG))
abbrev Kc:FS:=(seqF (lT gH (fE eO (aJ (gv 2) aH)) (bY 4) rV) cG)
def wJ:{B // ∀{P w K mg base} (T:Txt K mg) (A:DefAt K mg "_law_worse" BV),Callee P w K mg base "_law_worse" CT [] 1 false cN (aX false CL B)}:=⟨_,fun T A=>
 cX (m':=gH) A rE fun f cdv A outer s H g E hr hu1=>(aM (li S_ rfl (jp (by rfl) T.b_range (bK (aI 2) bJ)) (cK 3 rE.nd) (aM (li S_ rfl (jp (by rfl) T.b_range (bK (aI 2) bJ)) (cK 4 rE.nd) (aM (dk 5 rE.nd (SO.toE (gM (aV (gN hu1 (aI 0) (aI 3)) (aV (gN hu1 (aI 0) (aI 4)) bZ)))))
   (aM (cj (kQ (bE (iW ZB Zm ZC ph pk (xB hu1 (aI 5) iB) (bK (xB hu1 (aI 1) (aI 3)) bJ))) (bE (iW ZB Zm ZC ph pk (xB hu1 (aI 5) iB) (bK (xB hu1 (aI 1) (aI 4)) bJ)))) (aM (cj (kQ (bE (iW ZB Zm ZC ph pk (xB hu1 (aI 5) iB) (bK (xB hu1 (aI 1) (aI 4)) bJ))) (bE (iW ZB Zm ZC ph pk (xB hu1 (aI 5) iB) (bK (xB hu1 (aI 1) (aI 3)) bJ)))) (O7 (m2:=gH) (aM (ji 6 rE.nd (by rfl) (gI rfl) (l8 (by rfl) T.b_list (bK (aI 1) bJ)))
   (aM (K5 6 rfl hu1 rfl (by rfl) (dg rfl) (aI 3) (aI 4) (cS (aV (gN hu1 (aI 1) (aI 4)) (aV (gN hu1 (aI 1) (aI 3)) bZ))))
   (aM (bQ (cS (aV (jl (by rfl) T.b_tuple (bK (aI 6) bJ)) (aV (cS (aV jY (aV (cS (aV (v_ 3) (aV (v_ 4) bZ))) bZ))) bZ))))
   aQ))) (Iv (Iv (QD On))) rfl)
   aQ)
   aQ)
   aQ)
   aQ)))
   aQ))
   (aM (bQ kl)
   aQ))⟩
def C2:=wJ.1
def wT:=aX false CL C2
abbrev mi:Stmt:=jk (top 63) 0
abbrev JU:List Str:=["self","way"]
abbrev CW:List Str:=["self","way"]
def TU:FnScope JU CW (aE mi):=cq
def C5:FN:=(d6 "way" (cg (aJ (gv 1) aH) [] gV) (fun _ ds=>Res.ok ds))
def lH:jV:=fun ds=>C5 (none::(ds.map some++d_ (JU.length-(ds.length+1)) none)) []
def QI(T:Txt K mg)(A:MakeAt K mg "Betters" "Betters" "Betters.__init__" mi)(z:Callee P w K mg base "copied" j3 [] 7 false [Md.bw] gV)(fo_way:dh K "way" nW):CalleeN P w K mg base "Betters" "Betters" CW [] 8 [Md.bw] lH:=by refine oO (k:=7) (fn:=C5) A TU rfl (fun _ _ _ _ _ _ us hl=>by obtain⟨u0,u1,rfl⟩:=l0 us hl;kernel_rfl) fun C xn f cdv A outer s H g E hr=>?_;have hu1:=gT hr;have hu64:=hr.units;exact(ly (fo_way "Betters" C rfl xn).1 (fo_way "Betters" C rfl xn).2 rfl (dg rfl) (aZ z (aG (aI 1) aR)) nX)
abbrev l7:Stmt:=jk (top 61) 0
abbrev BE:List Str:=["self","owns","ring"]
abbrev vQ:List Str:=["self","owns","ring"]
def SK:FnScope BE vQ (aE l7):=cq
def BC:FN:=(d6 "owns" (cg (aJ (gv 1) aH) [] gV) (d6 "ring" (cg (aJ (gv 2) aH) [] gV) (fun _ ds=>Res.ok ds)))
def j5:jV:=fun ds=>BC (none::(ds.map some++d_ (BE.length-(ds.length+1)) none)) []
def OW(T:Txt K mg)(A:MakeAt K mg "Goes" "Goes" "Goes.__init__" l7)(z:Callee P w K mg base "copied" j3 [] 7 false [Md.bw] gV)(fo_ring:dh K "ring" kr)(fo_owns:dh K "owns" oF):CalleeN P w K mg base "Goes" "Goes" vQ [] 8 q0 j5:=by refine oO (k:=7) (fn:=BC) A SK rfl (fun _ _ _ _ _ _ us hl=>by obtain⟨u0,u1,u2,rfl⟩:=lp us hl;kernel_rfl) fun C xn f cdv A outer s H g E hr=>?_;have hu1:=gT hr;have hu64:=hr.units;exact(ly (fo_owns "Goes" C rfl xn).1 (fo_owns "Goes" C rfl xn).2 rfl (dg rfl) (aZ z (aG (aI 1) aR)) (ly (fo_ring "Goes" C rfl xn).1 (fo_ring "Goes" C rfl xn).2 rfl (dg rfl) (aZ z (aG (aI 2) aR)) nX))
abbrev mn:Stmt:=jk (top 65) 0
abbrev CP:List Str:=["self","ring","part"]
abbrev rO:List Str:=["self","ring","part"]
def TV:FnScope CP rO (aE mn):=cq
def C6:FN:=(d6 "ring" (cg (aJ (gv 1) aH) [] gV) (d6 "part" (cg (aJ (gv 2) aH) [] gV) (fun _ ds=>Res.ok ds)))
def iS:jV:=fun ds=>C6 (none::(ds.map some++d_ (CP.length-(ds.length+1)) none)) []
def QJ(T:Txt K mg)(A:MakeAt K mg "Handing" "Handing" "Handing.__init__" mn)(z:Callee P w K mg base "copied" j3 [] 7 false [Md.bw] gV)(fo_part:dh K "part" pW)(fo_ring:dh K "ring" kr):CalleeN P w K mg base "Handing" "Handing" rO [] 8 q0 iS:=by refine oO (k:=7) (fn:=C6) A TV rfl (fun _ _ _ _ _ _ us hl=>by obtain⟨u0,u1,u2,rfl⟩:=lp us hl;kernel_rfl) fun C xn f cdv A outer s H g E hr=>?_;have hu1:=gT hr;have hu64:=hr.units;exact(ly (fo_ring "Handing" C rfl xn).1 (fo_ring "Handing" C rfl xn).2 rfl (dg rfl) (aZ z (aG (aI 1) aR)) (ly (fo_part "Handing" C rfl xn).1 (fo_part "Handing" C rfl xn).2 rfl (dg rfl) (aZ z (aG (aI 2) aR)) nX))
abbrev B1:Stmt:=top 11
abbrev Cq:List Str:=["wishes"]
abbrev pC:List Str:=["wishes"]
def TB:FnScope Cq pC (aE B1):=cq
def oG:{B // ∀{P w K mg base} (T:Txt K mg) (A:DefAt K mg "things_in" B1),Callee P w K mg base "things_in" pC [] 1 false [Md.bw] (aX false Cq B)}:=⟨_,fun T A=>
 cX (m':=[Md.bw]) A TB fun f cdv A outer s H g E hr hu1=>(aM (bQ (dP (by rfl) T.b_len (bK (xB hu1 (aI 0) iB) bJ)))
   aQ)⟩
def JF:=oG.1
def mL:=aX false Cq JF
abbrev B0:Stmt:=top 12
abbrev Co:List Str:=["wishes"]
abbrev wY:List Str:=["wishes"]
def Tw:FnScope Co wY (aE B0):=cq
def Bx:{B // ∀{P w K mg base} (T:Txt K mg) (A:DefAt K mg "is_square" B0) (c_things_in:Callee P w K mg base "things_in" pC [] 1 false [Md.bw] mL),Callee P w K mg base "is_square" wY [] 2 false [Md.bw] (aX false Co B)}:=⟨_,fun T A c_things_in=>
 cX (m':=[Md.bw]) A Tw fun f cdv A outer s H g E hr hu1=>have hu64:=hr.units;(aM (bQ (fu hu64 (bE (aZ c_things_in (aG (aI 0) aR))) (bE (dP (by rfl) T.b_len (bK (aI 0) bJ)))))
   aQ)⟩
def JE:=Bx.1
def Cj:=aX false Co JE
abbrev BN:Stmt:=top 6
abbrev B6:List Str:=["value"]
abbrev pr:List Str:=["value"]
def Ti:FnScope B6 pr (aE BN):=cq
def pV:{B // ∀{P w K mg base} (T:Txt K mg) (A:DefAt K mg "is_whole" BN),Callee P w K mg base "is_whole" pr [] 1 false [Md.bw] (aX false B6 B)}:=⟨_,fun T A=>
 cX (m':=[Md.bw]) A Ti fun f cdv A outer s H g E hr hu1=>(aM (bQ (fg (n5 "int" "int" rfl (Of _) (by rfl) T.b_isinstance (by rfl) T.b_int (aI 0)) (gm (FJ (n5 "bool" "bool" rfl (Iq _) (by rfl) T.b_isinstance (by rfl) T.b_bool (aI 0))))))
   aQ)⟩
def R6:=pV.1
def kB:=aX false B6 R6
abbrev BL:Stmt:=top 7
abbrev B4:List Str:=["value","bound"]
abbrev qP:List Str:=["value","bound"]
def Tg:FnScope B4 qP (aE BL):=cq
def qE:{B // ∀{P w K mg base} (T:Txt K mg) (A:DefAt K mg "is_below" BL) (c_is_whole:Callee P w K mg base "is_whole" pr [] 1 false [Md.bw] kB),Callee P w K mg base "is_below" qP [] 2 false q0 (aX false B4 B)}:=⟨_,fun T A c_is_whole=>
 cX (m':=q0) A Tg fun f cdv A outer s H g E hr hu1=>(aM (bQ (fg (aZ c_is_whole (aG (aI 0) aR)) (gm (Qq LC zA Lz LA iB (aI 0) (aI 1)))))
   aQ)⟩
def vW:=qE.1
def lE:=aX false B4 vW
abbrev Cg:Stmt:=top 8
abbrev Ds:List Str:=["numbers","bound","ahead","place","number"]
abbrev xH:List Str:=["numbers","bound"]
def xW:FnScope Ds xH (aE Cg):=cq
abbrev pE:FS:=(seqF (gy jI (iK (dG (cW (cg (aJ (gv 4) (aJ (gv 1) aH)) [] lE))) (dY (f2 (gv 4) (gv 2) jN))) (seqF (retF jI (gv 3)) cG) cG) (seqF (putF jI 2 (gv 4) (fun _=>Res.ok (D.bl true))) cG))
def qW:{B // ∀{P w K mg base} (T:Txt K mg) (A:DefAt K mg "first_wrong" Cg) (c_is_below:Callee P w K mg base "is_below" qP [] 2 false q0 lE),Callee P w K mg base "first_wrong" xH [] 3 false q0 (aX false Ds B)}:=⟨_,fun T A c_is_below=>
 cX (m':=jI) A xW fun f cdv A outer s H g E hr hu1=>(aM (ji 2 xW.nd (by rfl) (gI rfl) Aw)
   (aM (uL S_ rfl (HA (by rfl) T.b_enumerate (yH 0)) (ke rfl (gO (cK 3 xW.nd) (gO (cK 4 xW.nd) kb))) (aM (cj (SW.toQ (df (dW (dA (bE (aZ c_is_below (aG (aI 4) (aG (aI 1) aR)))))) (hW (nr hu1 (aI 4) (aI 2))))) (aM (bQ (v_ 3))
   aQ)
   aQ)
   (aM (n6 2 hu1 rfl (by rfl) (dg rfl) (aI 4) ck)
   aQ)))
   (aM (bQ (dP (by rfl) T.b_len (bK (aI 0) bJ)))
   aQ)))⟩
def xC:=qW.1
def xE:=aX false Ds xC
abbrev BW:Stmt:=top 9
abbrev CM:List Str:=["numbers","bound"]
abbrev pw:List Str:=["numbers","bound"]
def TQ:FnScope CM pw (aE BW):=cq
def wK:{B // ∀{P w K mg base} (T:Txt K mg) (A:DefAt K mg "are_unlike" BW) (c_first_wrong:Callee P w K mg base "first_wrong" xH [] 3 false q0 xE),Callee P w K mg base "are_unlike" pw [] 4 false q0 (aX false CM B)}:=⟨_,fun T A c_first_wrong=>
 cX (m':=q0) A TQ fun f cdv A outer s H g E hr hu1=>have hu64:=hr.units;(aM (bQ (fu hu64 (bE (aZ c_first_wrong (aG (aI 0) (aG (aI 1) aR)))) (bE (dP (by rfl) T.b_len (bK (aI 0) bJ)))))
   aQ)⟩
def C3:=wK.1
def lG:=aX false CM C3
abbrev CH:Stmt:=top 10
abbrev DF:List Str:=["numbers","bound"]
abbrev sd:List Str:=["numbers","bound"]
def Uo:FnScope DF sd (aE CH):=cq
def C0:{B // ∀{P w K mg base} (T:Txt K mg) (A:DefAt K mg "has_each_once" CH) (c_are_unlike:Callee P w K mg base "are_unlike" pw [] 4 false q0 lG),Callee P w K mg base "has_each_once" sd [] 5 false q0 (aX false DF B)}:=⟨_,fun T A c_are_unlike=>
 cX (m':=q0) A Uo fun f cdv A outer s H g E hr hu1=>have hu64:=hr.units;(aM (bQ (fg (fu hu64 (bE (dP (by rfl) T.b_len (bK (aI 0) bJ))) (aI 1)) (gm (aZ c_are_unlike (aG (aI 0) (aG (aI 1) aR))))))
   aQ)⟩
def Ki:=C0.1
def iH:=aX false DF Ki
abbrev BY:Stmt:=top 19
abbrev CO:List Str:=["wishes","told"]
abbrev rN:List Str:=["wishes","told"]
def TR:FnScope CO rN (aE BY):=cq
def wM:{B // ∀{P w K mg base} (T:Txt K mg) (A:DefAt K mg "is_dealing" BY) (c_things_in:Callee P w K mg base "things_in" pC [] 1 false [Md.bw] mL) (c_are_unlike:Callee P w K mg base "are_unlike" pw [] 4 false q0 lG),Callee P w K mg base "is_dealing" rN [] 5 false q0 (aX false CO B)}:=⟨_,fun T A c_things_in c_are_unlike=>
 cX (m':=q0) A TR fun f cdv A outer s H g E hr hu1=>have hu64:=hr.units;(aM (bQ (fg (fu hu64 (bE (dP (by rfl) T.b_len (bK (aI 1) bJ))) (bE (dP (by rfl) T.b_len (bK (aI 0) bJ)))) (gm (aZ c_are_unlike (aG (aI 1) (aG (bE (aZ c_things_in (aG (aI 0) aR))) aR))))))
   aQ)⟩
def C4:=wM.1
def kA:=aX false CO C4
abbrev Ch:Stmt:=top 17
abbrev Dt:List Str:=["hands"]
abbrev Dv:List Str:=["hands"]
def Ub:FnScope Dt Dv (aE Ch):=cq
def wZ:{B // ∀{P w K mg base} (T:Txt K mg) (A:DefAt K mg "ones_behind" Ch),Callee P w K mg base "ones_behind" Dv [] 1 false [Md.bw] (aX false Dt B)}:=⟨_,fun T A=>
 cX (m':=[Md.bw]) A Ub fun f cdv A outer s H g E hr hu1=>(aM (bQ (NS (bE (n8 (aI 0) (oE iB) oy)) (bE (n8 (aI 0) oy (oE iB)))))
   aQ)⟩
def CI:=wZ.1
def mR:=aX false Dt CI
abbrev A6:Stmt:=top 14
abbrev AV:List Str:=["wishes","hand","one","other","row"]
abbrev vE:List Str:=["wishes","hand","one","other"]
def IB:FnScope AV vE (aE A6):=cq
def uE:{B // ∀{P w K mg base} (T:Txt K mg) (A:DefAt K mg "likes" A6),Callee P w K mg base "likes" vE [] 1 false fR (aX false AV B)}:=⟨_,fun T A=>
 cX (m':=[.bw,.bw,.bw,.bw,.sh]) A IB fun f cdv A outer s H g E hr hu1=>(aM (dk 4 IB.nd (gN hu1 (aI 0) (aI 1)))
   (aM (bQ (sE (bE (iW ZB Zm ZC ph pk (aI 4) (bK (aI 2) bJ))) (bE (iW ZB Zm ZC ph pk (aI 4) (bK (aI 3) bJ)))))
   aQ))⟩
def Hc:=uE.1
def vD:=aX false AV Hc
abbrev AF:Stmt:=top 30
abbrev Ac:List Str:=["wishes","owns","dealing","ring","better","worse"]
abbrev Af:List Str:=["wishes","owns","dealing","ring"]
def O1:FnScope Ac Af (aE AF):=cq
def Fi:{B // ∀{P w K mg base} (T:Txt K mg) (A:DefAt K mg "goes" AF),Callee P w K mg base "goes" Af [] 1 false fR (aX false Ac B)}:=⟨_,fun T A=>cX (m':=[.bw,.bw,.bw,.bw,.sh,.sh]) A O1 fun f cdv A outer s H g E hr hu1=>vN⟩
def Mu:=Fi.1
def L9:=aX false Ac Mu
abbrev mh:Stmt:=jk (top 61) 1
abbrev CK:List Str:=["self","wishes","told","all_owned"]
abbrev CS:List Str:=["self","wishes","told"]
def J2:FnScope CK CS (aE mh):=cq
def BH:{B // ∀{P w K mg base} (T:Txt K mg) (A:MethAt K "Goes" "shows" "Goes.shows" mh) (c_has_each_once:Callee P w K mg base "has_each_once" sd [] 5 false q0 iH) (c_is_square:Callee P w K mg base "is_square" wY [] 2 false [Md.bw] Cj) (c_goes:Callee P w K mg base "goes" Af [] 1 false fR L9) (c_is_dealing:Callee P w K mg base "is_dealing" rN [] 5 false q0 kA) (fo_owns:dh K "owns" oF) (fo_ring:dh K "ring" kr),CalleeM P w K mg base "shows" CS 6 (fun x=>x == "Goes") cL (aX false CK B)}:=⟨_,fun T A c_has_each_once c_is_square c_goes c_is_dealing fo_owns fo_ring=>
 oP (k:=5) (m':=[.sh,.sh,.sh,.sh]) A J2 rfl (fun _ _ _ _ _ _ us hl=>by obtain⟨u0,u1,u2,rfl⟩:=lp us hl;kernel_rfl) fun f cdv A outer s H g E hr=>
 have hu1:=gT hr;have hu64:=hr.units
 (aM (dk 3 J2.nd (fg (aZ c_is_square (aG (aI 1) aR)) (gm (aZ c_has_each_once (aG (bE (gC fo_owns (aI 0))) (aG (bE (dP (by rfl) T.b_len (bK (aI 1) bJ))) aR))))))
   (aM (bQ (fg (v_ 3) (fg (aZ c_is_dealing (aG (aI 1) (aG (aI 2) aR))) (gm (aZ c_goes (aG (aI 1) (aG (bE (gC fo_owns (aI 0))) (aG (aI 2) (aG (bE (gC fo_ring (aI 0))) aR)))))))))
   aQ))⟩
def JP:=BH.1
def C8:=aX false CK JP
abbrev Cz:Stmt:=top 13
abbrev CQ:List Str:=["wishes","order"]
abbrev CY:List Str:=["wishes","order"]
def TX:FnScope CQ CY (aE Cz):=cq
def wN:{B // ∀{P w K mg base} (T:Txt K mg) (A:DefAtD K mg "order_of" Cz [Value.none]) (c_has_each_once:Callee P w K mg base "has_each_once" sd [] 5 false q0 iH) (c_first_wrong:Callee P w K mg base "first_wrong" xH [] 3 false q0 xE) {C_NoOrder:Addr} (xi_NoOrder:XCI P w K mg base "NoOrder" C_NoOrder "at") (xn_NoOrder:XN K "NoOrder" C_NoOrder),CalleeX P w K mg base "order_of" CY [] 6 false cL (aX false CQ B)}:=⟨_,fun{P w K mg base} T A c_has_each_once c_first_wrong {C_NoOrder} xi_NoOrder xn_NoOrder=>
 Iu (k:=5) (m':=cL) A TX rfl (fun _ _ _ _ _ _ _ us hl=>by obtain⟨u0,u1,rfl⟩:=l0 us hl;exact⟨_,rfl,rfl⟩) fun f cdv A outer s H g E hr=>
 have hu1:=gT hr;have hu64:=hr.units
 (aM (cj (nq (aI 1) (bE kl)) (aM (bQ (SO.toE (qr rfl (by rfl) T.b_list (by rfl) T.b_range (bK (bE (dP (by rfl) T.b_len (bK (aI 0) bJ))) bJ))))
   aQ)
   aQ)
   (aM (cj (dW (dA (bE (aZ c_has_each_once (aG (aI 1) (aG (bE (dP (by rfl) T.b_len (bK (aI 0) bJ))) aR)))))) (aM (Qs rfl xi_NoOrder xn_NoOrder (hr.mono (by decide)) (by rfl) (aV (aZ c_first_wrong (aG (aI 1) (aG (bE (dP (by rfl) T.b_len (bK (aI 0) bJ))) aR))) bZ))
   aQ)
   aQ)
   (aM (bQ (SO.toE (l8 (by rfl) T.b_list (bK (aI 1) bJ))))
   aQ)))⟩
def wS:=wN.1
def xM:=aX false CQ wS
abbrev qX:Stmt:=top 18
abbrev rL:List Str:=["got"]
abbrev CV:List Str:=["got"]
def J3:FnScope rL CV (aE qX):=cq
def Cb:{B // ∀{P w K mg base} (T:Txt K mg) (A:DefAt K mg "dealing_of" qX),Callee P w K mg base "dealing_of" CV [] 1 false [Md.bw] (aX false rL B)}:=⟨_,fun{P w K mg base} T A=>
 cX (m':=[Md.bw]) A J3 fun f cdv A outer s H g E hr hu1=>(aM (bQ (jl (by rfl) T.b_tuple (bK (SO.toB (fT (X:=(bM cH P w K mg base rL "dealing_of" (aE qX) f cdv A outer s H E).nox) (N':=["hand","got"]) (nl:=1) (cap:=[0]) J3.nd rfl (d9 (osc:=(aE qX)) (ON:=rL) rfl rfl (by decide+kernel)) (iw.toC (jp (by rfl) T.b_range (bK (bE (dP (by rfl) T.b_len (bK (aI 0) bJ))) bJ))) (fun _ _ _ _ _ _=>(cK 0 (show I_ (["hand","got"]:List Str)by decide+kernel))) (dI (by decide)) (fun _ _ _ _ _ _=>fm) (fun _ _ _ _ _ _=>(gN hu1 (aI 1) (aI 0))))) bJ)))
   aQ)⟩
def JQ:=Cb.1
def JS:=aX false rL JQ
abbrev rq:Stmt:=top 16
abbrev rc:List Str:=["row","things"]
abbrev Cu:List Str:=["row","things"]
def J7:FnScope rc Cu (aE rq):=cq
def Bv:{B // ∀{P w K mg base} (T:Txt K mg) (A:DefAt K mg "best_left" rq),Callee P w K mg base "best_left" Cu [] 1 false q0 (aX false rc B)}:=⟨_,fun{P w K mg base} T A=>
 cX (m':=q0) A J7 fun f cdv A outer s H g E hr hu1=>(aM (bQ (gN hu1 (SO.toB (fT (X:=(bM cH P w K mg base rc "best_left" (aE rq) f cdv A outer s H E).nox) (N':=["thing","things"]) (nl:=1) (cap:=[1]) J7.nd rfl (d9 (osc:=(aE rq)) (ON:=rc) rfl rfl (by decide+kernel)) (fj (aI 0)) (fun _ _ _ _ _ _=>(cK 0 (show I_ (["thing","things"]:List Str)by decide+kernel))) (dI (by decide)) (fun _ _ _ _ _ _=>(pX (nr hu1 (aI 0) (aI 1)))) (fun _ _ _ _ _ _=>(v_ 0)))) iB))
   aQ)⟩
def JD:=Bv.1
def wH:=aX false rc JD
abbrev BX:Stmt:=top 32
abbrev CN:List Str:=["wishes","order","things","got","hand"]
abbrev CU:List Str:=["wishes","order"]
def xI:FnScope CN CU (aE BX):=cq
abbrev T7:FS:=(seqF (putF kS 3 (gv 4) (cg (aJ (f2 (gv 0) (gv 4) bP) (aJ (gv 2) aH)) [] wH)) (seqF (f8 "list" kS 2 (aJ (f2 (gv 3) (gv 4) bP) aH) remD) cG))
def wL:{B // ∀{P w K mg base} (T:Txt K mg) (A:DefAtD K mg "by_order" BX [Value.none]) (c_things_in:Callee P w K mg base "things_in" pC [] 1 false [Md.bw] mL) (c_order_of_x:CalleeX P w K mg base "order_of" CY [] 6 false cL xM) (c_best_left:Callee P w K mg base "best_left" Cu [] 1 false q0 wH) (c_dealing_of:Callee P w K mg base "dealing_of" CV [] 1 false [Md.bw] JS),CalleeX P w K mg base "by_order" CU [] 7 false cL (aX false CN B)}:=⟨_,fun T A c_things_in c_order_of_x c_best_left c_dealing_of=>
 Iu (k:=6) (m':=kS) A xI rfl (fun _ _ _ _ _ _ _ us hl=>by obtain⟨u0,u1,rfl⟩:=l0 us hl;exact⟨_,rfl,rfl⟩) fun f cdv A outer s H g E hr=>
 have hu1:=gT hr;have hu64:=hr.units
 (aM (ji 2 xI.nd (by rfl) (gI rfl) (qr rfl (by rfl) T.b_list (by rfl) T.b_range (bK (bE (aZ c_things_in (aG (aI 0) aR))) bJ)))
   (aM (ji 3 xI.nd (by rfl) (gI rfl) Aw)
   (aM (NW rfl (Fa (Hb c_order_of_x (hr.mono (by decide)) (bF (v_ 0) (bF (v_ 1) aR)))) (cK 4 xI.nd) (aM (n6 3 hu1 rfl (by rfl) (dg rfl) (aI 4) (aZ c_best_left (aG (xB hu1 (aI 0) (aI 4)) (aG (aI 2) aR))))
   (aM (lW 2 rfl Za Qa5 Qcl Jl Gk (by rfl) (dg rfl) (aV (gN hu1 (aI 3) (aI 4)) bZ))
   aQ)))
   (aM (bQ (aZ c_dealing_of (aG (aI 3) aR)))
   aQ))))⟩
def wR:=wL.1
def mT:=aX false CN wR
abbrev mF:Stmt:=jk (top 62) 1
abbrev DD:List Str:=["self","wishes","told"]
abbrev DI:List Str:=["self","wishes","told"]
def Ul:FnScope DD DI (aE mF):=cq
def rC:{B // ∀{P w K mg base} (T:Txt K mg) (A:MethAt K "Ordered" "shows" "Ordered.shows" mF) (c_by_order_x:CalleeX P w K mg base "by_order" CU [] 7 false cL mT) (c_is_dealing:Callee P w K mg base "is_dealing" rN [] 5 false q0 kA) {C_NoOrder:Addr} {bm_NoOrder:List Value} (xa_NoOrder:XA K C_NoOrder bm_NoOrder) (xb_NoOrder:mg "NoOrder" = some (.ref C_NoOrder)) (hk_NoOrder:pM K C_NoOrder BB) (fo_order:dh K "order" jB),CalleeM P w K mg base "shows" DI 8 (fun x=>x == "Ordered") cL (aX false DD B)}:=⟨_,fun{P w K mg base} T A c_by_order_x c_is_dealing {C_NoOrder} {bm_NoOrder} xa_NoOrder xb_NoOrder hk_NoOrder fo_order=>
 oP (k:=7) (m':=dC) A Ul rfl (fun _ _ _ _ _ _ us hl=>by obtain⟨u0,u1,u2,rfl⟩:=lp us hl;kernel_rfl) fun f cdv A outer s H g E hr=>
 have hu1:=gT hr;have hu64:=hr.units
 (aM (N3 (bmT:=bm_NoOrder) (m1:=dC) rfl rfl rfl xb_NoOrder xa_NoOrder.ob xa_NoOrder.be hk_NoOrder (by rfl) (fun _ _=>(aM (bQ (fg (aZ c_is_dealing (aG (aI 1) (aG (aI 2) aR))) (gm (fu hu64 (bE (Hb c_by_order_x (hr.mono (by decide)) (bF (v_ 1) (bF (gC fo_order (aI 0)) aR)))) (aI 2)))))
   aQ)) (fun _=>(aM (bQ ck)
   aQ)))
   aQ)⟩
def xX:=rC.1
def rZ:=aX false DD xX
abbrev Dx:Stmt:=top 23
abbrev DV:List Str:=["way"]
abbrev DZ:List Str:=["way"]
def Uw:FnScope DV DZ (aE Dx):=cq
def Dr:{B // ∀{P w K mg base} (T:Txt K mg) (A:DefAt K mg "has_form_of_way" Dx),Callee P w K mg base "has_form_of_way" DZ [] 1 false [Md.bw] (aX false DV B)}:=⟨_,fun T A=>
 cX (m':=[Md.bw]) A Uw fun f cdv A outer s H g E hr hu1=>have hu64:=hr.units;(aM (bQ (fg (nj (bE (dP (by rfl) T.b_len (bK (aI 0) bJ))) iB) (gm (K2 hu64 (bE (cS (aV (gN hu1 (aI 0) iB) (aV (dP (by rfl) T.b_len (bK (aI 0) bJ)) bZ)))) (bE (cS (aV (cS (aV jY (aV dz bZ))) (aV (cS (aV jY (aV dz bZ))) bZ))))))))
   aQ)⟩
def Kn:=Dr.1
def DT:=aX false DV Kn
abbrev CD:Stmt:=top 22
abbrev Dg:List Str:=["wishes","dealing","thing"]
abbrev Dk:List Str:=["wishes","dealing","thing"]
def Ur:FnScope Dg Dk (aE CD):=cq
def Cy:{B // ∀{P w K mg base} (T:Txt K mg) (A:DefAt K mg "is_left_over" CD) (c_things_in:Callee P w K mg base "things_in" pC [] 1 false [Md.bw] mL) (c_is_below:Callee P w K mg base "is_below" qP [] 2 false q0 lE),Callee P w K mg base "is_left_over" Dk [] 3 false cN (aX false Dg B)}:=⟨_,fun T A c_things_in c_is_below=>
 cX (m':=cN) A Ur fun f cdv A outer s H g E hr hu1=>(aM (bQ (fg (aZ c_is_below (aG (aI 2) (aG (bE (aZ c_things_in (aG (aI 0) aR))) aR))) (gm (K3 hu1 (aI 2) (aI 1)))))
   aQ)⟩
def Ka:=Cy.1
def Kb:=aX false Dg Ka
abbrev rG:Stmt:=top 21
abbrev rX:List Str:=["dealing","way","things"]
abbrev Dm:List Str:=["dealing","way"]
def Kg:FnScope rX Dm (aE rG):=cq
def wP:{B // ∀{P w K mg base} (T:Txt K mg) (A:DefAt K mg "things_along" rG) (c_ones_behind:Callee P w K mg base "ones_behind" Dv [] 1 false [Md.bw] mR),Callee P w K mg base "things_along" Dm [] 2 false q0 (aX false rX B)}:=⟨_,fun{P w K mg base} T A c_ones_behind=>
 cX (m':=im) A Kg fun f cdv A outer s H g E hr hu1=>have hu64:=hr.units;(aM (pi 2 (X:=(bM cH P w K mg base rX "things_along" (aE rG) f cdv A outer s H E).nox) (m:=im) (N':=["hand","dealing"]) (nl:=1) (cap:=[0]) Kg.nd rfl (by rfl) (by rfl) (d9 (osc:=(aE rG)) (ON:=rX) rfl rfl (by decide+kernel)) (fj (bE (aZ c_ones_behind (aG (xB hu1 (aI 1) iB) aR)))) (fun _ _ _ _ _ _=>(cK 0 (show I_ (["hand","dealing"]:List Str)by decide+kernel))) (dI (by decide)) (fun _ _ _ _ _ _=>fm) (fun _ _ _ _ _ _=>(gN hu1 (aI 1) (aI 0))))
   (aM (cj (jH hu64 (xB hu1 (aI 1) iB) (bE jY)) (aM (n6 2 hu1 rfl (by rfl) (dg rfl) (bE (zV iB)) (gN hu1 (aI 1) iB))
   aQ)
   aQ)
   (aM (FG 2 rfl (bQ (v_ 2)))
   aQ)))⟩
def Db:=wP.1
def rS:=aX false rX Db
abbrev sg:Stmt:=top 24
abbrev r6:List Str:=["wishes","dealing","way"]
abbrev DK:List Str:=["wishes","dealing","way"]
def Kh:FnScope r6 DK (aE sg):=cq
def rD:{B // ∀{P w K mg base} (T:Txt K mg) (A:DefAt K mg "is_betterment" sg) (c_are_unlike:Callee P w K mg base "are_unlike" pw [] 4 false q0 lG) (c_has_form_of_way:Callee P w K mg base "has_form_of_way" DZ [] 1 false [Md.bw] DT) (c_is_left_over:Callee P w K mg base "is_left_over" Dk [] 3 false cN Kb) (c_things_along:Callee P w K mg base "things_along" Dm [] 2 false q0 rS) (c_likes:Callee P w K mg base "likes" vE [] 1 false fR vD),Callee P w K mg base "is_betterment" DK [] 5 false cN (aX false r6 B)}:=⟨_,fun{P w K mg base} T A c_are_unlike c_has_form_of_way c_is_left_over c_things_along c_likes=>
 cX (m':=cN) A Kh fun f cdv A outer s H g E hr hu1=>have hu64:=hr.units;(aM (cj (SW.toQ (df (dW (dA (bE (aZ c_has_form_of_way (aG (aI 2) aR))))) (df (dW (dA (xB hu1 (aI 2) iB))) (hW (dW (dA (bE (aZ c_are_unlike (aG (xB hu1 (aI 2) iB) (aG (bE (dP (by rfl) T.b_len (bK (aI 0) bJ))) aR)))))))))) (aM (bQ ck)
   aQ)
   aQ)
   (aM (cj (SW.toQ (FO (jH hu64 (xB hu1 (aI 2) iB) (bE jY)) (Gi (dW (dA (bE (aZ c_is_left_over (aG (aI 0) (aG (aI 1) (aG (xB hu1 (aI 2) iB) aR)))))))))) (aM (bQ ck)
   aQ)
   aQ)
   (aM (bQ (lV rfl (by rfl) T.b_all (bK (SO.toB (fT (X:=(bM cH P w K mg base r6 "is_betterment" (aE sg) f cdv A outer s H E).nox) (N':=["hand","thing","wishes","dealing"]) (nl:=2) (cap:=[0,1]) Kh.nd rfl (d9 (osc:=(aE sg)) (ON:=r6) rfl rfl (by decide+kernel)) (iw.toC (Lp (by rfl) T.b_zip (gN hu1 (aI 2) iB) (aZ c_things_along (aG (aI 1) (aG (aI 2) aR))))) (fun _ _ _ _ _ _=>(ke rfl (gO (cK 0 (show I_ (["hand","thing","wishes","dealing"]:List Str)by decide+kernel)) (gO (cK 1 (show I_ (["hand","thing","wishes","dealing"]:List Str)by decide+kernel)) kb)))) (ou (jm (dI (by decide)) (jm (dI (by decide)) oX))) (fun _ _ _ _ _ _=>fm) (fun _ _ _ _ _ _=>(aZ c_likes (aG (aI 2) (aG (aI 0) (aG (aI 1) (aG (xB hu1 (aI 3) (aI 0)) aR)))))))) bJ)))
   aQ)))⟩
def xY:=rD.1
def lJ:=aX false r6 xY
abbrev mD:Stmt:=jk (top 63) 1
abbrev DB:List Str:=["self","wishes","told"]
abbrev DG:List Str:=["self","wishes","told"]
def Uj:FnScope DB DG (aE mD):=cq
def xJ:{B // ∀{P w K mg base} (T:Txt K mg) (A:MethAt K "Betters" "shows" "Betters.shows" mD) (c_is_betterment:Callee P w K mg base "is_betterment" DK [] 5 false cN lJ) (c_is_dealing:Callee P w K mg base "is_dealing" rN [] 5 false q0 kA) (fo_way:dh K "way" nW),CalleeM P w K mg base "shows" DG 6 (fun x=>x == "Betters") cL (aX false DB B)}:=⟨_,fun T A c_is_betterment c_is_dealing fo_way=>
 oP (k:=5) (m':=dC) A Uj rfl (fun _ _ _ _ _ _ us hl=>by obtain⟨u0,u1,u2,rfl⟩:=lp us hl;kernel_rfl) fun f cdv A outer s H g E hr=>
 have hu1:=gT hr;have hu64:=hr.units
 (aM (bQ (fg (aZ c_is_dealing (aG (aI 1) (aG (aI 2) aR))) (gm (aZ c_is_betterment (aG (aI 1) (aG (aI 2) (aG (bE (gC fo_way (aI 0))) aR)))))))
   aQ)⟩
def Dy:=xJ.1
def xZ:=aX false DB Dy
abbrev Dw:Stmt:=top 36
abbrev DP:List Str:=["one","other","rest"]
abbrev DQ:List Str:=["one","other"]
def yC:FnScope DP DQ (aE Dw):=cq
def J0:{B // ∀{P w K mg base} (T:Txt K mg) (A:DefAt K mg "greatest_divisor" Dw),Callee P w K mg base "greatest_divisor" DQ [] 1 false cL (aX false DP B)}:=⟨_,fun T A=>
 cX (m':=dC) A yC fun f cdv A outer s H g E hr hu1=>have hu64:=hr.units;(aM (O0 1000 S_ (gW hu64 (aI 1) iB) (aM (dk 2 yC.nd (jg (aI 0) (aI 1)))
   (aM (dk 0 yC.nd (v_ 1))
   (aM (dk 1 yC.nd (v_ 2))
   aQ))))
   (aM (bQ (KZ (by rfl) T.b_abs (bK (aI 0) bJ)))
   aQ))⟩
def Uy:=J0.1
def Uv:=aX false DP Uy
abbrev BK:Stmt:=top 37
abbrev B3:List Str:=["top","bottom","divisor"]
abbrev B7:List Str:=["top","bottom"]
def Cv:FnScope B3 B7 (aE BK):=cq
def HN:{B // ∀{P w K mg base} (T:Txt K mg) (A:DefAt K mg "fraction" BK) (c_is_whole:Callee P w K mg base "is_whole" pr [] 1 false [Md.bw] kB) (c_greatest_divisor:Callee P w K mg base "greatest_divisor" DQ [] 1 false cL Uv),Callee P w K mg base "fraction" B7 [] 2 false cL (aX false B3 B)}:=⟨_,fun T A c_is_whole c_greatest_divisor=>
 cX (m':=dC) A Cv fun f cdv A outer s H g E hr hu1=>have hu64:=hr.units;(aM (cj (SW.toQ (df (dW (dA (bE (aZ c_is_whole (aG (aI 0) aR))))) (df (dW (dA (bE (aZ c_is_whole (aG (aI 1) aR))))) (hW (jH hu64 (aI 1) iB))))) (aM Pz
   aQ)
   aQ)
   (aM (dk 2 Cv.nd (aZ c_greatest_divisor (bF (v_ 0) (bF (v_ 1) aR))))
   (aM (cj (kQ (aI 1) iB) (aM (dk 2 Cv.nd (zV (aI 2)))
   aQ)
   aQ)
   (aM (bQ (cS (aV (HQ (aI 0) (aI 2)) (aV (HQ (aI 1) (aI 2)) bZ))))
   aQ))))⟩
def R4:=HN.1
def R7:=aX false B3 R4
abbrev AH:Stmt:=top 39
abbrev Ae:List Str:=["a","b"]
abbrev Ag:List Str:=["a","b"]
def O3:FnScope Ae Ag (aE AH):=cq
def Fj:{B // ∀{P w K mg base} (T:Txt K mg) (A:DefAt K mg "plus" AH) (c_fraction:Callee P w K mg base "fraction" B7 [] 2 false cL R7),Callee P w K mg base "plus" Ag [] 3 false q0 (aX false Ae B)}:=⟨_,fun T A c_fraction=>
 cX (m':=q0) A O3 fun f cdv A outer s H g E hr hu1=>(aM (bQ (aZ c_fraction (bF (gU (bE (pY (xB hu1 (aI 0) iB) (xB hu1 (aI 1) iB))) (bE (pY (xB hu1 (aI 1) iB) (xB hu1 (aI 0) iB)))) (bF (pY (xB hu1 (aI 0) iB) (xB hu1 (aI 1) iB)) aR))))
   aQ)⟩
def Mw:=Fj.1
def Ak:=aX false Ae Mw
abbrev A7:Stmt:=top 41
abbrev AW:List Str:=["shares","told","share"]
abbrev qi:List Str:=["shares"]
def vM:FnScope AW qi (aE A7):=cq
abbrev Rf:FS:=(seqF (cU [.bw,.sh,.sh] 1 (cg (aJ (gv 1) (aJ (gv 2) aH)) [] Ak)) cG)
def Ai:{B // ∀{P w K mg base} (T:Txt K mg) (A:DefAt K mg "total" A7) (c_plus:Callee P w K mg base "plus" Ag [] 3 false q0 Ak),Callee P w K mg base "total" qi [] 4 false [Md.bw] (aX false AW B)}:=⟨_,fun T A c_plus=>
 cX (m':=[.bw,.sh,.sh]) A vM fun f cdv A outer s H g E hr hu1=>(aM (dk 1 vM.nd (oU (by rfl) T.k_NOUGHT))
   (aM (AB S_ rfl (fj (aI 0)) (fun _=>(cK 2 vM.nd)) (fun _=>(aM (dk 1 vM.nd (aZ c_plus (aG (aI 1) (aG (aI 2) aR))))
   aQ)))
   (aM (bQ (v_ 1))
   aQ)))⟩
def He:=Ai.1
def qo:=aX false AW He
abbrev BZ:Stmt:=top 38
abbrev Cn:List Str:=["value"]
abbrev wX:List Str:=["value"]
def Tv:FnScope Cn wX (aE BZ):=cq
def IG:{B // ∀{P w K mg base} (T:Txt K mg) (A:DefAt K mg "has_worth" BZ) (c_is_whole:Callee P w K mg base "is_whole" pr [] 1 false [Md.bw] kB),Callee P w K mg base "has_worth" wX [] 2 false [Md.bw] (aX false Cn B)}:=⟨_,fun T A c_is_whole=>
 cX (m':=[Md.bw]) A Tv fun f cdv A outer s H g E hr hu1=>have hu64:=hr.units;(aM (cj (SW.toQ (df (dW (dA (bE (n5 "tuple" "tuple" rfl (Jj _) (by rfl) T.b_isinstance (by rfl) T.b_tuple (aI 0))))) (hW (gW hu64 (bE (dP (by rfl) T.b_len (bK (aI 0) bJ))) iB)))) (aM (bQ ck)
   aQ)
   aQ)
   (aM (bQ (fg (aZ c_is_whole (aG (xB hu1 (aI 0) iB) aR)) (fg (aZ c_is_whole (aG (xB hu1 (aI 0) iB) aR)) (gm (nj (xB hu1 (aI 0) iB) iB)))))
   aQ))⟩
def Tk:=IG.1
def wI:=aX false Cn Tk
abbrev AG:Stmt:=top 40
abbrev Ad:List Str:=["a","b"]
abbrev p0:List Str:=["a","b"]
def O2:FnScope Ad p0 (aE AG):=cq
def tx:{B // ∀{P w K mg base} (T:Txt K mg) (A:DefAt K mg "less" AG),Callee P w K mg base "less" p0 [] 1 false q0 (aX false Ad B)}:=⟨_,fun T A=>
 cX (m':=q0) A O2 fun f cdv A outer s H g E hr hu1=>(aM (bQ (sE (bE (pY (xB hu1 (aI 0) iB) (xB hu1 (aI 1) iB))) (bE (pY (xB hu1 (aI 1) iB) (xB hu1 (aI 0) iB)))))
   aQ)⟩
def Mv:=tx.1
def ls:=aX false Ad Mv
abbrev mW:Stmt:=top 49
abbrev mX:List Str:=["row","many"]
abbrev DR:List Str:=["row","many"]
def D4:FnScope mX DR (aE mW):=cq
def xQ:{B // ∀{P w K mg base} (T:Txt K mg) (A:DefAt K mg "is_row_of_shares" mW) (c_has_worth:Callee P w K mg base "has_worth" wX [] 2 false [Md.bw] wI) (c_total:Callee P w K mg base "total" qi [] 4 false [Md.bw] qo) (c_less:Callee P w K mg base "less" p0 [] 1 false q0 ls),Callee P w K mg base "is_row_of_shares" DR [] 5 false q0 (aX false mX B)}:=⟨_,fun{P w K mg base} T A c_has_worth c_total c_less=>
 cX (m':=q0) A D4 fun f cdv A outer s H g E hr hu1=>have hu64:=hr.units;(aM (cj (SW.toQ (df (dW (dA (bE (NY (by rfl) T.b_isinstance (by rfl) T.b_list (by rfl) T.b_tuple (aI 0))))) (df (gW hu64 (bE (dP (by rfl) T.b_len (bK (aI 0) bJ))) (aI 1)) (hW (dW (dA (bE (lV rfl (by rfl) T.b_all (bK (SO.toB (fT (X:=(bM cH P w K mg base mX "is_row_of_shares" (aE mW) f cdv A outer s H E).nox) (N':=["share"]) (nl:=1) (cap:=[]) D4.nd rfl (d9 (osc:=(aE mW)) (ON:=mX) rfl rfl (by decide+kernel)) (fj (aI 0)) (fun _ _ _ _ _ _=>(cK 0 (show I_ (["share"]:List Str)by decide+kernel))) (dI (by decide)) (fun _ _ _ _ _ _=>fm) (fun _ _ _ _ _ _=>(aZ c_has_worth (aG (aI 0) aR))))) bJ))))))))) (aM (bQ ck)
   aQ)
   aQ)
   (aM (bQ (fg (FJ (K0 rfl (by rfl) T.b_any (bK (SO.toB (fT (X:=(bM cH P w K mg base mX "is_row_of_shares" (aE mW) f cdv A outer s H E).nox) (N':=["share"]) (nl:=1) (cap:=[]) D4.nd rfl (d9 (osc:=(aE mW)) (ON:=mX) rfl rfl (by decide+kernel)) (fj (aI 0)) (fun _ _ _ _ _ _=>(cK 0 (show I_ (["share"]:List Str)by decide+kernel))) (dI (by decide)) (fun _ _ _ _ _ _=>fm) (fun _ _ _ _ _ _=>(aZ c_less (aG (aI 0) (aG (bE (oU (by rfl) T.k_NOUGHT)) aR)))))) bJ))) (gm (fu hu64 (bE (aZ c_total (aG (aI 0) aR))) (bE (oU (by rfl) T.k_ONE))))))
   aQ))⟩
def D3:=xQ.1
def yE:=aX false mX D3
abbrev rH:Stmt:=top 50
abbrev rY:List Str:=["rows","place","row"]
abbrev Dn:List Str:=["rows"]
def sf:FnScope rY Dn (aE rH):=cq
abbrev Ue:FS:=(seqF (gy dC (dG (cW (cg (aJ (gv 2) (aJ (fC (aJ (gv 0) aH) lenD) aH)) [] yE))) (seqF (retF dC (cz (aJ (fun _=>Res.ok (D.str "row")) (aJ (gv 1) aH)))) cG) cG) cG)
abbrev Uf:FS:=(seqF (gy dC (dY (f2 (cg (aJ (eR 1 [1] (bS cZ (gv 0)) (bY 0) (fun _=>Res.ok true) (f2 (gv 0) (gv 1) bP)) aH) [] qo) (fun _=>Res.ok (D.tup [D.int 1,D.int 1])) neD)) (seqF (retF dC (cz (aJ (fun _=>Res.ok (D.str "column")) (aJ (gv 1) aH)))) cG) cG) cG)
def wQ:{B // ∀{P w K mg base} (T:Txt K mg) (A:DefAt K mg "why_no_table" rH) (c_is_row_of_shares:Callee P w K mg base "is_row_of_shares" DR [] 5 false q0 yE) (c_total:Callee P w K mg base "total" qi [] 4 false [Md.bw] qo),Callee P w K mg base "why_no_table" Dn [] 6 false [Md.sh] (aX false rY B)}:=⟨_,fun{P w K mg base} T A c_is_row_of_shares c_total=>
 cX (m':=dC) A sf fun f cdv A outer s H g E hr hu1=>have hu64:=hr.units;(aM (li S_ rfl (L7 (by rfl) T.b_enumerate (v_ 0)) (ke rfl (gO (cK 1 sf.nd) (gO (cK 2 sf.nd) kb))) (aM (cj (dW (dA (bE (aZ c_is_row_of_shares (aG (aI 2) (aG (bE (dP (by rfl) T.b_len (bK (aI 0) bJ))) aR)))))) (aM (bQ (cS (aV jY (aV (v_ 1) bZ))))
   aQ)
   aQ)
   aQ))
   (aM (li S_ rfl (jp (by rfl) T.b_range (bK (bE (dP (by rfl) T.b_len (bK (aI 0) bJ))) bJ)) (cK 1 sf.nd) (aM (cj (gW hu64 (bE (aZ c_total (aG (SO.toB (fT (X:=(bM cH P w K mg base rY "why_no_table" (aE rH) f cdv A outer s H E).nox) (N':=["row","place"]) (nl:=1) (cap:=[1]) sf.nd rfl (d9 (osc:=(aE rH)) (ON:=rY) rfl rfl (by decide+kernel)) (fj (aI 0)) (fun _ _ _ _ _ _=>(cK 0 (show I_ (["row","place"]:List Str)by decide+kernel))) (dI (by decide)) (fun _ _ _ _ _ _=>fm) (fun _ _ _ _ _ _=>(gN hu1 (aI 0) (aI 1))))) aR))) (bE (oU (by rfl) T.k_ONE))) (aM (bQ (cS (aV jY (aV (v_ 1) bZ))))
   aQ)
   aQ)
   aQ))
   (aM (bQ kl)
   aQ)))⟩
def Dc:=wQ.1
def Dd:=aX false rY Dc
abbrev BM:Stmt:=top 51
abbrev B5:List Str:=["wishes","told"]
abbrev qQ:List Str:=["wishes","told"]
def Th:FnScope B5 qQ (aE BM):=cq
def qF:{B // ∀{P w K mg base} (T:Txt K mg) (A:DefAt K mg "is_table" BM) (c_why_no_table:Callee P w K mg base "why_no_table" Dn [] 6 false [Md.sh] Dd) (c_is_square:Callee P w K mg base "is_square" wY [] 2 false [Md.bw] Cj),Callee P w K mg base "is_table" qQ [] 7 false [.bw,.sh] (aX false B5 B)}:=⟨_,fun T A c_why_no_table c_is_square=>
 cX (m':=[.bw,.sh]) A Th fun f cdv A outer s H g E hr hu1=>have hu64:=hr.units;(aM (bQ (fg (aZ c_is_square (aG (aI 0) aR)) (fg (fu hu64 (bE (dP (by rfl) T.b_len (bK (aI 1) bJ))) (bE (dP (by rfl) T.b_len (bK (aI 0) bJ)))) (gm (Eo (bE (aZ c_why_no_table (bF (v_ 1) aR))) (bE kl))))))
   aQ)⟩
def vX:=qF.1
def iT:=aX false B5 vX
abbrev mU:Stmt:=top 52
abbrev mV:List Str:=["wishes","table","thing","other","having"]
abbrev DY:List Str:=["wishes","table","thing","other"]
def DS:FnScope mV DY (aE mU):=cq
def Dq:{B // ∀{P w K mg base} (T:Txt K mg) (A:DefAt K mg "hands_that_rise" mU) (c_less:Callee P w K mg base "less" p0 [] 1 false q0 ls) (c_likes:Callee P w K mg base "likes" vE [] 1 false fR vD),Callee P w K mg base "hands_that_rise" DY [] 2 false fR (aX false mV B)}:=⟨_,fun{P w K mg base} T A c_less c_likes=>
 cX (m':=[.bw,.bw,.bw,.bw,.ow]) A DS fun f cdv A outer s H g E hr hu1=>(aM (pi 4 (X:=(bM cH P w K mg base mV "hands_that_rise" (aE mU) f cdv A outer s H E).nox) (m:=[.bw,.bw,.bw,.bw,.sh]) (N':=["hand","thing","table"]) (nl:=1) (cap:=[2,1]) DS.nd rfl (by rfl) (by rfl) (d9 (osc:=(aE mU)) (ON:=mV) rfl rfl (by decide+kernel)) (iw.toC (jp (by rfl) T.b_range (bK (bE (dP (by rfl) T.b_len (bK (aI 0) bJ))) bJ))) (fun _ _ _ _ _ _=>(cK 0 (show I_ (["hand","thing","table"]:List Str)by decide+kernel))) (dI (by decide)) (fun _ _ _ _ _ _=>(pX (dA (bE (aZ c_less (aG (bE (oU (by rfl) T.k_NOUGHT)) (aG (xB hu1 (xB hu1 (aI 2) (aI 0)) (aI 1)) aR))))))) (fun _ _ _ _ _ _=>(v_ 0)))
   (aM (bQ (SO.toE (fT (X:=(bM cH P w K mg base mV "hands_that_rise" (aE mU) f cdv A outer s H E).nox) (N':=["hand","wishes","other","thing"]) (nl:=1) (cap:=[0,3,2]) DS.nd rfl (d9 (osc:=(aE mU)) (ON:=mV) rfl rfl (by decide+kernel)) (fj (aI 4)) (fun _ _ _ _ _ _=>(cK 0 (show I_ (["hand","wishes","other","thing"]:List Str)by decide+kernel))) (dI (by decide)) (fun _ _ _ _ _ _=>(pX (dA (bE (aZ c_likes (aG (aI 1) (aG (aI 0) (aG (aI 2) (aG (aI 3) aR))))))))) (fun _ _ _ _ _ _=>(v_ 0)))))
   aQ))⟩
def Km:=Dq.1
def yD:=aX false mV Km
abbrev qL:Stmt:=top 53
abbrev qN:List Str:=["wishes","table","things","steps","thing"]
abbrev B9:List Str:=["wishes","table"]
def qU:FnScope qN B9 (aE qL):=cq
abbrev TJ:FS:=(seqF (putF [.bw,.bw,.sh,.ow,.sh] 3 (gv 4) (eR 1 [0,1,4] (bS cZ (gv 2)) (bY 0) (cW (cg (aJ (gv 1) (aJ (gv 2) (aJ (gv 3) (aJ (gv 0) aH)))) [] yD)) (gv 0))) cG)
def Bj:{B // ∀{P w K mg base} (T:Txt K mg) (A:DefAt K mg "steps_up" qL) (c_hands_that_rise:Callee P w K mg base "hands_that_rise" DY [] 2 false fR yD),Callee P w K mg base "steps_up" B9 [] 3 false q0 (aX false qN B)}:=⟨_,fun{P w K mg base} T A c_hands_that_rise=>
 cX (m':=[.bw,.bw,.sh,.sh,.sh]) A qU fun f cdv A outer s H g E hr hu1=>(aM (dk 2 qU.nd (SO.toE (qr rfl (by rfl) T.b_list (by rfl) T.b_range (bK (bE (dP (by rfl) T.b_len (bK (aI 1) bJ))) bJ))))
   (aM (ji 3 qU.nd (by rfl) (gI rfl) Aw)
   (aM (li S_ rfl (Fa (v_ 2)) (cK 4 qU.nd) (aM (n6 3 hu1 rfl (by rfl) (dg rfl) (aI 4) (SO.toE (fT (X:=(bM cH P w K mg base qN "steps_up" (aE qL) f cdv A outer s H E).nox) (N':=["other","wishes","table","thing"]) (nl:=1) (cap:=[0,1,4]) qU.nd rfl (d9 (osc:=(aE qL)) (ON:=qN) rfl rfl (by decide+kernel)) (fj (aI 2)) (fun _ _ _ _ _ _=>(cK 0 (show I_ (["other","wishes","table","thing"]:List Str)by decide+kernel))) (dI (by decide)) (fun _ _ _ _ _ _=>(pX (dA (bE (aZ c_hands_that_rise (aG (aI 1) (aG (aI 2) (aG (aI 3) (aG (aI 0) aR))))))))) (fun _ _ _ _ _ _=>(v_ 0)))))
   aQ))
   (aM (FG 3 rfl (bQ (v_ 3)))
   aQ))))⟩
def Jo:=Bj.1
def Jp:=aX false qN Jo
abbrev qY:Stmt:=top 54
abbrev rM:List Str:=["steps","numbers","thing"]
abbrev CZ:List Str:=["steps","numbers","thing"]
def J4:FnScope rM CZ (aE qY):=cq
def Cc:{B // ∀{P w K mg base} (T:Txt K mg) (A:DefAt K mg "rises_from" qY),Callee P w K mg base "rises_from" CZ [] 1 false cN (aX false rM B)}:=⟨_,fun{P w K mg base} T A=>
 cX (m':=cN) A J4 fun f cdv A outer s H g E hr hu1=>(aM (bQ (lV rfl (by rfl) T.b_all (bK (SO.toB (fT (X:=(bM cH P w K mg base rM "rises_from" (aE qY) f cdv A outer s H E).nox) (N':=["other","numbers","thing"]) (nl:=1) (cap:=[1,2]) J4.nd rfl (d9 (osc:=(aE qY)) (ON:=rM) rfl rfl (by decide+kernel)) (fj (xB hu1 (aI 0) (aI 2))) (fun _ _ _ _ _ _=>(cK 0 (show I_ (["other","numbers","thing"]:List Str)by decide+kernel))) (dI (by decide)) (fun _ _ _ _ _ _=>fm) (fun _ _ _ _ _ _=>(nj (xB hu1 (aI 1) (aI 0)) (xB hu1 (aI 1) (aI 2)))))) bJ)))
   aQ)⟩
def JR:=Cc.1
def C9:=aX false rM JR
abbrev mQ:Stmt:=top 55
abbrev mS:List Str:=["wishes","table","numbers","steps"]
abbrev Du:List Str:=["wishes","table","numbers"]
def xV:FnScope mS Du (aE mQ):=cq
def qV:{B // ∀{P w K mg base} (T:Txt K mg) (A:DefAt K mg "are_heights" mQ) (c_is_whole:Callee P w K mg base "is_whole" pr [] 1 false [Md.bw] kB) (c_steps_up:Callee P w K mg base "steps_up" B9 [] 3 false q0 Jp) (c_rises_from:Callee P w K mg base "rises_from" CZ [] 1 false cN C9),Callee P w K mg base "are_heights" Du [] 4 false cN (aX false mS B)}:=⟨_,fun{P w K mg base} T A c_is_whole c_steps_up c_rises_from=>
 cX (m':=[.bw,.bw,.bw,.sh]) A xV fun f cdv A outer s H g E hr hu1=>have hu64:=hr.units;(aM (cj (SW.toQ (df (gW hu64 (bE (dP (by rfl) T.b_len (bK (aI 2) bJ))) (bE (dP (by rfl) T.b_len (bK (aI 1) bJ)))) (hW (dW (dA (bE (lV rfl (by rfl) T.b_all (bK (SO.toB (fT (X:=(bM cH P w K mg base mS "are_heights" (aE mQ) f cdv A outer s H E).nox) (N':=["number"]) (nl:=1) (cap:=[]) xV.nd rfl (d9 (osc:=(aE mQ)) (ON:=mS) rfl rfl (by decide+kernel)) (fj (aI 2)) (fun _ _ _ _ _ _=>(cK 0 (show I_ (["number"]:List Str)by decide+kernel))) (dI (by decide)) (fun _ _ _ _ _ _=>fm) (fun _ _ _ _ _ _=>(fg (aZ c_is_whole (aG (aI 0) aR)) (gm (Ep (aI 0) iB)))))) bJ)))))))) (aM (bQ ck)
   aQ)
   aQ)
   (aM (dk 3 xV.nd (aZ c_steps_up (aG (aI 0) (aG (aI 1) aR))))
   (aM (bQ (lV rfl (by rfl) T.b_all (bK (SO.toB (fT (X:=(bM cH P w K mg base mS "are_heights" (aE mQ) f cdv A outer s H E).nox) (N':=["thing","steps","numbers"]) (nl:=1) (cap:=[3,2]) xV.nd rfl (d9 (osc:=(aE mQ)) (ON:=mS) rfl rfl (by decide+kernel)) (OT (v_ 3)) (fun _ _ _ _ _ _=>(cK 0 (show I_ (["thing","steps","numbers"]:List Str)by decide+kernel))) (dI (by decide)) (fun _ _ _ _ _ _=>fm) (fun _ _ _ _ _ _=>(aZ c_rises_from (aG (aI 1) (aG (aI 2) (aG (aI 0) aR))))))) bJ)))
   aQ)))⟩
def xA:=qV.1
def rA:=aX false mS xA
abbrev mC:Stmt:=jk (top 64) 1
abbrev Df:List Str:=["self","wishes","told"]
abbrev Di:List Str:=["self","wishes","told"]
def Uq:FnScope Df Di (aE mC):=cq
def wO:{B // ∀{P w K mg base} (T:Txt K mg) (A:MethAt K "Rising" "shows" "Rising.shows" mC) (c_are_heights:Callee P w K mg base "are_heights" Du [] 4 false cN rA) (c_is_table:Callee P w K mg base "is_table" qQ [] 7 false [.bw,.sh] iT) (fo_heights:dh K "heights" oY),CalleeM P w K mg base "shows" Di 8 (fun x=>x == "Rising") cL (aX false Df B)}:=⟨_,fun T A c_are_heights c_is_table fo_heights=>
 oP (k:=7) (m':=dC) A Uq rfl (fun _ _ _ _ _ _ us hl=>by obtain⟨u0,u1,u2,rfl⟩:=lp us hl;kernel_rfl) fun f cdv A outer s H g E hr=>
 have hu1:=gT hr;have hu64:=hr.units
 (aM (bQ (fg (aZ c_is_table (aG (aI 1) (bF (v_ 2) aR))) (gm (aZ c_are_heights (aG (aI 1) (aG (aI 2) (aG (bE (gC fo_heights (aI 0))) aR)))))))
   aQ)⟩
def Da:=wO.1
def xS:=aX false Df Da
abbrev CG:Stmt:=top 58
abbrev DE:List Str:=["table","ring","part"]
abbrev DJ:List Str:=["table","ring","part"]
def Um:FnScope DE DJ (aE CG):=cq
def Jv:{B // ∀{P w K mg base} (T:Txt K mg) (A:DefAt K mg "can_be_handed" CG),Callee P w K mg base "can_be_handed" DJ [] 1 false cN (aX false DE B)}:=⟨_,fun T A=>cX (m':=cN) A Um fun f cdv A outer s H g E hr hu1=>vN⟩
def Uc:=Jv.1
def Ud:=aX false DE Uc
abbrev kC:Stmt:=top 56
abbrev kD:List Str:=["wishes","table","ring","hands","things","steps"]
abbrev DM:List Str:=["wishes","table","ring"]
def yG:FnScope kD DM (aE kC):=cq
def xL:{B // ∀{P w K mg base} (T:Txt K mg) (A:DefAt K mg "is_share_ring" kC) (c_is_below:Callee P w K mg base "is_below" qP [] 2 false q0 lE) (c_are_unlike:Callee P w K mg base "are_unlike" pw [] 4 false q0 lG),Callee P w K mg base "is_share_ring" DM [] 5 false cN (aX false kD B)}:=⟨_,fun{P w K mg base} T A c_is_below c_are_unlike=>
 cX (m':=[.bw,.bw,.bw,.ow,.ow,.sh]) A yG fun f cdv A outer s H g E hr hu1=>(aM (pi 3 (X:=(bM cH P w K mg base kD "is_share_ring" (aE kC) f cdv A outer s H E).nox) (m:=[.bw,.bw,.bw,.sh,.sh,.sh]) (N':=["hand","thing"]) (nl:=2) (cap:=[]) yG.nd rfl (by rfl) (by rfl) (d9 (osc:=(aE kC)) (ON:=kD) rfl rfl (by decide+kernel)) (fj (aI 2)) (fun _ _ _ _ _ _=>(ke rfl (gO (cK 0 (show I_ (["hand","thing"]:List Str)by decide+kernel)) (gO (cK 1 (show I_ (["hand","thing"]:List Str)by decide+kernel)) kb)))) (ou (jm (dI (by decide)) (jm (dI (by decide)) oX))) (fun _ _ _ _ _ _=>fm) (fun _ _ _ _ _ _=>(v_ 0)))
   (aM (pi 4 (X:=(bM cH P w K mg base kD "is_share_ring" (aE kC) f cdv A outer s H E).nox) (m:=[.bw,.bw,.bw,.ow,.sh,.sh]) (N':=["hand","thing"]) (nl:=2) (cap:=[]) yG.nd rfl (by rfl) (by rfl) (d9 (osc:=(aE kC)) (ON:=kD) rfl rfl (by decide+kernel)) (fj (aI 2)) (fun _ _ _ _ _ _=>(ke rfl (gO (cK 0 (show I_ (["hand","thing"]:List Str)by decide+kernel)) (gO (cK 1 (show I_ (["hand","thing"]:List Str)by decide+kernel)) kb)))) (ou (jm (dI (by decide)) (jm (dI (by decide)) oX))) (fun _ _ _ _ _ _=>fm) (fun _ _ _ _ _ _=>(v_ 1)))
   (aM (cj (SW.toQ (df (dW (dA (aI 2))) (df (dW (dA (bE (aZ c_are_unlike (aG (aI 4) (aG (bE (dP (by rfl) T.b_len (bK (aI 1) bJ))) aR)))))) (hW (dW (dA (bE (lV rfl (by rfl) T.b_all (bK (SO.toB (fT (X:=(bM cH P w K mg base kD "is_share_ring" (aE kC) f cdv A outer s H E).nox) (N':=["hand","table"]) (nl:=1) (cap:=[1]) yG.nd rfl (d9 (osc:=(aE kC)) (ON:=kD) rfl rfl (by decide+kernel)) (fj (aI 3)) (fun _ _ _ _ _ _=>(cK 0 (show I_ (["hand","table"]:List Str)by decide+kernel))) (dI (by decide)) (fun _ _ _ _ _ _=>fm) (fun _ _ _ _ _ _=>(aZ c_is_below (aG (aI 0) (aG (bE (dP (by rfl) T.b_len (bK (aI 1) bJ))) aR)))))) bJ))))))))) (aM (bQ ck)
   aQ)
   aQ)
   vN)))⟩
def DA:=xL.1
def xP:=aX false kD DA
abbrev mE:Stmt:=jk (top 65) 1
abbrev DC:List Str:=["self","wishes","told"]
abbrev DH:List Str:=["self","wishes","told"]
def Uk:FnScope DC DH (aE mE):=cq
def xK:{B // ∀{P w K mg base} (T:Txt K mg) (A:MethAt K "Handing" "shows" "Handing.shows" mE) (c_is_share_ring:Callee P w K mg base "is_share_ring" DM [] 5 false cN xP) (c_is_table:Callee P w K mg base "is_table" qQ [] 7 false [.bw,.sh] iT) (c_can_be_handed:Callee P w K mg base "can_be_handed" DJ [] 1 false cN Ud) (fo_ring:dh K "ring" kr) (fo_part:dh K "part" pW),CalleeM P w K mg base "shows" DH 8 (fun x=>x == "Handing") cL (aX false DC B)}:=⟨_,fun T A c_is_share_ring c_is_table c_can_be_handed fo_ring fo_part=>
 oP (k:=7) (m':=dC) A Uk rfl (fun _ _ _ _ _ _ us hl=>by obtain⟨u0,u1,u2,rfl⟩:=lp us hl;kernel_rfl) fun f cdv A outer s H g E hr=>
 have hu1:=gT hr;have hu64:=hr.units
 (aM (cj (SW.toQ (df (dW (dA (bE (aZ c_is_table (aG (aI 1) (bF (v_ 2) aR)))))) (hW (dW (dA (bE (aZ c_is_share_ring (aG (aI 1) (aG (aI 2) (aG (bE (gC fo_ring (aI 0))) aR)))))))))) (aM (bQ ck)
   aQ)
   aQ)
   (aM (bQ (aZ c_can_be_handed (aG (aI 2) (aG (bE (gC fo_ring (aI 0))) (aG (bE (gC fo_part (aI 0))) aR)))))
   aQ))⟩
def Dz:=xK.1
def yA:=aX false DC Dz
abbrev BG:Stmt:=top 46
abbrev BD:List Str:=["part","dealing","many"]
abbrev BF:List Str:=["part","dealing","many"]
def SJ:FnScope BD BF (aE BG):=cq
def A8:{B // ∀{P w K mg base} (T:Txt K mg) (A:DefAt K mg "is_part" BG) (c_has_each_once:Callee P w K mg base "has_each_once" sd [] 5 false q0 iH) (c_less:Callee P w K mg base "less" p0 [] 1 false q0 ls) (c_has_worth:Callee P w K mg base "has_worth" wX [] 2 false [Md.bw] wI),Callee P w K mg base "is_part" BF [] 6 false cN (aX false BD B)}:=⟨_,fun T A c_has_each_once c_less c_has_worth=>
 cX (m':=cN) A SJ fun f cdv A outer s H g E hr hu1=>(aM (bQ (fg (aZ c_has_worth (aG (bE (jl (by rfl) T.b_tuple (bK (aI 0) bJ))) aR)) (fg (aZ c_less (aG (bE (oU (by rfl) T.k_NOUGHT)) (aG (aI 0) aR))) (gm (aZ c_has_each_once (aG (aI 1) (aG (aI 2) aR)))))))
   aQ)⟩
def Jm:=A8.1
def vP:=aX false BD Jm
abbrev mK:Stmt:=top 47
abbrev mM:List Str:=["parts","many"]
abbrev Ct:List Str:=["parts","many"]
def CC:FnScope mM Ct (aE mK):=cq
def qS:{B // ∀{P w K mg base} (T:Txt K mg) (A:DefAt K mg "are_parts" mK) (c_is_part:Callee P w K mg base "is_part" BF [] 6 false cN vP),Callee P w K mg base "are_parts" Ct [] 7 false q0 (aX false mM B)}:=⟨_,fun{P w K mg base} T A c_is_part=>
 cX (m':=q0) A CC fun f cdv A outer s H g E hr hu1=>have hu64:=hr.units;(aM (cj (SW.toQ (df (dW (dA (aI 0))) (hW (sP (bE (dP (by rfl) T.b_len (bK (aI 0) bJ))) (bE (gU (bE (lj (bE (zN (aI 1) iB)) (bE (zN (aI 1) iB)))) iB)))))) (aM (bQ ck)
   aQ)
   aQ)
   (aM (cj (dW (dA (bE (lV rfl (by rfl) T.b_all (bK (SO.toB (fT (X:=(bM cH P w K mg base mM "are_parts" (aE mK) f cdv A outer s H E).nox) (N':=["part","dealing","many"]) (nl:=2) (cap:=[1]) CC.nd rfl (d9 (osc:=(aE mK)) (ON:=mM) rfl rfl (by decide+kernel)) (fj (aI 0)) (fun _ _ _ _ _ _=>(ke rfl (gO (cK 0 (show I_ (["part","dealing","many"]:List Str)by decide+kernel)) (gO (cK 1 (show I_ (["part","dealing","many"]:List Str)by decide+kernel)) kb)))) (ou (jm (dI (by decide)) (jm (dI (by decide)) oX))) (fun _ _ _ _ _ _=>fm) (fun _ _ _ _ _ _=>(aZ c_is_part (aG (aI 0) (aG (aI 1) (aG (aI 2) aR))))))) bJ))))) (aM (bQ ck)
   aQ)
   aQ)
   (aM (bQ (fu hu64 (bE (Sh rfl hu64 (by rfl) T.b_len (by rfl) T.b_set (bK (SO.toB (fT (X:=(bM cH P w K mg base mM "are_parts" (aE mK) f cdv A outer s H E).nox) (N':=["part","dealing"]) (nl:=2) (cap:=[]) CC.nd rfl (d9 (osc:=(aE mK)) (ON:=mM) rfl rfl (by decide+kernel)) (fj (aI 0)) (fun _ _ _ _ _ _=>(ke rfl (gO (cK 0 (show I_ (["part","dealing"]:List Str)by decide+kernel)) (gO (cK 1 (show I_ (["part","dealing"]:List Str)by decide+kernel)) kb)))) (ou (jm (dI (by decide)) (jm (dI (by decide)) oX))) (fun _ _ _ _ _ _=>fm) (fun _ _ _ _ _ _=>(jl (by rfl) T.b_tuple (bK (aI 1) bJ))))) bJ))) (bE (dP (by rfl) T.b_len (bK (aI 0) bJ)))))
   aQ)))⟩
def wF:=qS.1
def qZ:=aX false mM wF
abbrev qK:Stmt:=top 44
abbrev qM:List Str:=["parts","hand","thing"]
abbrev B8:List Str:=["parts","hand","thing"]
def JW:FnScope qM B8 (aE qK):=cq
def Bi:{B // ∀{P w K mg base} (T:Txt K mg) (A:DefAt K mg "share_in" qK) (c_total:Callee P w K mg base "total" qi [] 4 false [Md.bw] qo),Callee P w K mg base "share_in" B8 [] 5 false cN (aX false qM B)}:=⟨_,fun{P w K mg base} T A c_total=>
 cX (m':=cN) A JW fun f cdv A outer s H g E hr hu1=>have hu64:=hr.units;(aM (bQ (aZ c_total (aG (SO.toB (fT (X:=(bM cH P w K mg base qM "share_in" (aE qK) f cdv A outer s H E).nox) (N':=["part","dealing","thing","hand"]) (nl:=2) (cap:=[2,1]) JW.nd rfl (d9 (osc:=(aE qK)) (ON:=qM) rfl rfl (by decide+kernel)) (fj (aI 0)) (fun _ _ _ _ _ _=>(ke rfl (gO (cK 0 (show I_ (["part","dealing","thing","hand"]:List Str)by decide+kernel)) (gO (cK 1 (show I_ (["part","dealing","thing","hand"]:List Str)by decide+kernel)) kb)))) (ou (jm (dI (by decide)) (jm (dI (by decide)) oX))) (fun _ _ _ _ _ _=>(pX (jH hu64 (xB hu1 (aI 1) (aI 3)) (aI 2)))) (fun _ _ _ _ _ _=>(v_ 0)))) aR)))
   aQ)⟩
def Jn:=Bi.1
def vY:=aX false qM Jn
abbrev qv:Stmt:=top 45
abbrev qq:List Str:=["parts","many","table","hand"]
abbrev AX:List Str:=["parts"]
def qz:FnScope qq AX (aE qv):=cq
abbrev Re:FS:=(seqF (f8 "list" [.bw,.sh,.ow,.sh] 2 (aJ (fC (aJ (eR 1 [0,3] (fE eO (aJ (gv 1) aH)) (bY 0) (fun _=>Res.ok true) (cg (aJ (gv 1) (aJ (gv 2) (aJ (gv 0) aH))) [] vY)) aH) tupD) aH) appD) cG)
def Ah:{B // ∀{P w K mg base} (T:Txt K mg) (A:DefAt K mg "mixed" qv) (c_share_in:Callee P w K mg base "share_in" B8 [] 5 false cN vY),Callee P w K mg base "mixed" AX [] 6 false [Md.bw] (aX false qq B)}:=⟨_,fun{P w K mg base} T A c_share_in=>
 cX (m':=[.bw,.sh,.ow,.sh]) A qz fun f cdv A outer s H g E hr hu1=>(aM (dk 1 qz.nd (dP (by rfl) T.b_len (bK (xB hu1 (xB hu1 (aI 0) iB) iB) bJ)))
   (aM (ji 2 qz.nd (by rfl) (gI rfl) (gM bZ))
   (aM (li S_ rfl (jp (by rfl) T.b_range (bK (aI 1) bJ)) (cK 3 qz.nd) (aM (lW 2 rfl Za ZW ZX pf uO (by rfl) (dg rfl) (aV (jl (by rfl) T.b_tuple (bK (SO.toB (fT (X:=(bM cH P w K mg base qq "mixed" (aE qv) f cdv A outer s H E).nox) (N':=["thing","parts","hand"]) (nl:=1) (cap:=[0,3]) qz.nd rfl (d9 (osc:=(aE qv)) (ON:=qq) rfl rfl (by decide+kernel)) (iw.toC (jp (by rfl) T.b_range (bK (aI 1) bJ))) (fun _ _ _ _ _ _=>(cK 0 (show I_ (["thing","parts","hand"]:List Str)by decide+kernel))) (dI (by decide)) (fun _ _ _ _ _ _=>fm) (fun _ _ _ _ _ _=>(aZ c_share_in (aG (aI 1) (aG (aI 2) (aG (aI 0) aR))))))) bJ)) bZ))
   aQ))
   (aM (bQ (jl (by rfl) T.b_tuple (bK (aI 2) bJ)))
   aQ))))⟩
def Hd:=Ah.1
def Hf:=aX false qq Hd
abbrev mB:Stmt:=jk (top 66) 1
abbrev De:List Str:=["self","wishes","told"]
abbrev Dh:List Str:=["self","wishes","told"]
def Up:FnScope De Dh (aE mB):=cq
def rJ:{B // ∀{P w K mg base} (T:Txt K mg) (A:MethAt K "Parted" "shows" "Parted.shows" mB) (c_mixed:Callee P w K mg base "mixed" AX [] 6 false [Md.bw] Hf) (c_are_parts:Callee P w K mg base "are_parts" Ct [] 7 false q0 qZ) (c_is_table:Callee P w K mg base "is_table" qQ [] 7 false [.bw,.sh] iT) (fo_parts:dh K "parts" oM),CalleeM P w K mg base "shows" Dh 8 (fun x=>x == "Parted") cL (aX false De B)}:=⟨_,fun T A c_mixed c_are_parts c_is_table fo_parts=>
 oP (k:=7) (m':=dC) A Up rfl (fun _ _ _ _ _ _ us hl=>by obtain⟨u0,u1,u2,rfl⟩:=lp us hl;kernel_rfl) fun f cdv A outer s H g E hr=>
 have hu1:=gT hr;have hu64:=hr.units
 (aM (bQ (fg (aZ c_is_table (aG (aI 1) (bF (v_ 2) aR))) (fg (aZ c_are_parts (aG (bE (gC fo_parts (aI 0))) (aG (bE (dP (by rfl) T.b_len (bK (aI 2) bJ))) aR))) (gm (fu hu64 (bE (aZ c_mixed (aG (bE (gC fo_parts (aI 0))) aR))) (aI 2))))))
   aQ)⟩
def xR:=rJ.1
def sj:=aX false De xR
abbrev Bq:List Str:=["self","wishes","told"]
abbrev ky:Str->Bool:=(fun nm=>(fun x:Str=>x == "Goes") nm || (fun nm=>(fun x:Str=>x == "Ordered") nm || (fun nm=>(fun x:Str=>x == "Betters") nm || (fun nm=>(fun x:Str=>x == "Rising") nm || (fun nm=>(fun x:Str=>x == "Handing") nm || (fun x:Str=>x == "Parted") nm) nm) nm) nm) nm)
abbrev kz:List D->Res D:=(og (fun x:Str=>x == "Goes") C8 (og (fun x:Str=>x == "Ordered") rZ (og (fun x:Str=>x == "Betters") xZ (og (fun x:Str=>x == "Rising") xS (og (fun x:Str=>x == "Handing") yA sj)))))
def OV(BT:CalleeM P w K mg base "shows" CS 6 (fun x=>x == "Goes") cL C8)(U:CalleeM P w K mg base "shows" DI 8 (fun x=>x == "Ordered") cL rZ)(Y:CalleeM P w K mg base "shows" DG 6 (fun x=>x == "Betters") cL xZ)(ld:CalleeM P w K mg base "shows" Di 8 (fun x=>x == "Rising") cL xS)(z:CalleeM P w K mg base "shows" DH 8 (fun x=>x == "Handing") cL yA)(Z:CalleeM P w K mg base "shows" Dh 8 (fun x=>x == "Parted") cL sj):CalleeM P w K mg base "shows" Bq 8 ky cL kz:=((BT.mono (k:=8) (by decide)).or ((U.mono (k:=8) (by decide)).or ((Y.mono (k:=8) (by decide)).or ((ld.mono (k:=8) (by decide)).or ((z.mono (k:=8) (by decide)).or (Z.mono (k:=8) (by decide)))))))
abbrev Cf:Stmt:=top 76
abbrev Cm:List Str:=["_law_papers","_law_wishes_here","_law_told","_law_due","_law_paper","_law_found"]
abbrev wV:List Str:=["_law_papers","_law_wishes_here","_law_told","_law_due"]
def C1:FnScope Cm wV (aE Cf):=cq
abbrev TY:FS:=(seqF (cU kR 5 (pR ky "shows" (gv 4) (aJ (gv 1) (aJ (gv 2) aH)) kz)) (seqF (gy kR (iK (dG (cW (f1 (gv 5) (jM "bool")))) (dY (f2 (gv 5) (gv 3) neD))) (seqF (retF kR (fun _=>Res.ok (D.bl false))) cG) cG) cG))
def Bu:{B // ∀{P w K mg base} (T:Txt K mg) (A:DefAt K mg "_law_says" Cf) (c_m_shows:CalleeM P w K mg base "shows" Bq 8 ky cL kz),Callee P w K mg base "_law_says" wV [] 9 false [.bw,.sh,.sh,.bw] (aX false Cm B)}:=⟨_,fun T A c_m_shows=>
 cX (m':=kR) A C1 fun f cdv A outer s H g E hr hu1=>have hu64:=hr.units;(aM (AB S_ rfl (fj (aI 0)) (fun _=>(cK 4 C1.nd)) (fun _=>(aM (dk 5 C1.nd (AC c_m_shows (hr.mono (by decide)) (v_ 4) (bF (v_ 1) (bF (v_ 2) aR))))
   (aM (cj (SW.toQ (df (dW (dA (bE (n5 "bool" "bool" rfl (Iq _) (by rfl) T.b_isinstance (by rfl) T.b_bool (aI 5))))) (hW (gW hu64 (aI 5) (aI 3))))) (aM (bQ ck)
   aQ)
   aQ)
   aQ))))
   (aM (bQ ck)
   aQ))⟩
def JB:=Bu.1
def jC:=aX false Cm JB
abbrev kE:Stmt:=top 78
abbrev kF:List Str:=["_law_script","_law_n","_law_owns","_law_lists","_law_dues","_law_one","_law_other","_law_some"]
abbrev DW:List Str:=["_law_script","_law_n"]
def kG:FnScope kF DW (aE kE):=cq
def Do:{B // ∀{P w K mg base} (T:Txt K mg) (A:DefAt K mg "_law_lists_kept" kE) (c__law_cell:Callee P w K mg base "_law_cell" pB [] 1 false q0 j4) (c__law_row:Callee P w K mg base "_law_row" qO [] 1 false [.sh,.bw] pq) (c_mk_Goes:CalleeN P w K mg base "Goes" "Goes" vQ [] 8 q0 j5) (c_mk_Handing:CalleeN P w K mg base "Handing" "Handing" rO [] 8 q0 iS) (fo_part:dh K "part" pW) (fo_owns:dh K "owns" oF) (fo_ring:dh K "ring" kr),Callee P w K mg base "_law_lists_kept" DW [] 10 false cL (aX false kF B)}:=⟨_,fun{P w K mg base} T A c__law_cell c__law_row c_mk_Goes c_mk_Handing fo_part fo_owns fo_ring=>
 cX (m':=nu) A kG fun f cdv A outer s H g E hr hu1=>have hu64:=hr.units;(aM (ji 2 kG.nd (by rfl) (gI rfl) (l8 (by rfl) T.b_list (bK (bE (aZ c__law_row (bF (aZ c__law_cell (aG (aI 0) (aG iB aR))) (aG (aI 1) aR)))) bJ)))
   (Gu (i:=3) (by rfl) (Qr 3 2 (m:=nu) (by decide) rfl kG.nd (by rfl) (gI rfl) (by rfl) (dg rfl) (fT (X:=(bM cH P w K mg base kF "_law_lists_kept" (aE kE) f cdv A outer s H E).nox) (N':=["_law_hand","_law_owns"]) (nl:=1) (cap:=[2]) kG.nd rfl (d9 (osc:=(aE kE)) (ON:=kF) rfl rfl (by decide+kernel)) (iw.toC (jp (by rfl) T.b_range (bK (aI 1) bJ))) (fun _ _ _ _ _ _=>(cK 0 (show I_ (["_law_hand","_law_owns"]:List Str)by decide+kernel))) (dI (by decide)) (fun _ _ _ _ _ _=>fm) (fun _ _ _ _ _ _=>(cS (aV (v_ 0) (aV (gN hu1 (aI 1) (aI 0)) bZ))))) (fT (X:=(bM cH P w K mg base kF "_law_lists_kept" (aE kE) f cdv A outer s H E).nox) (N':=["_law_thing"]) (nl:=1) (cap:=[]) kG.nd rfl (d9 (osc:=(aE kE)) (ON:=kF) rfl rfl (by decide+kernel)) (fj (aI 2)) (fun _ _ _ _ _ _=>(cK 0 (show I_ (["_law_thing"]:List Str)by decide+kernel))) (dI (by decide)) (fun _ _ _ _ _ _=>fm) (fun _ _ _ _ _ _=>(cS (aV dz (aV (v_ 0) bZ))))))
   (mI (by rfl) (HP (j:=4) (by decide) rfl (lg (by decide)) (fun _=>JL 4 (X:=(bM cH P w K mg base kF "_law_lists_kept" (aE kE) f cdv A outer s H E).nox) (m:=nu) (N':=["_law_one"]) (nl:=1) (cap:=[]) kG.nd rfl (by rfl) (by rfl) (d9 (osc:=(aE kE)) (ON:=kF) rfl rfl (by decide+kernel)) (fj (aI 3)) (fun _ _ _ _ _ _=>(cK 0 (show I_ (["_law_one"]:List Str)by decide+kernel))) (dI (by decide)) (fun _ _ _ _ _ _=>fm) (fun _ _ _ _ _ _=>(l8 (by rfl) T.b_list (bK (aI 0) bJ)))))
   (mI (by rfl) (AU (ro:=false) (mb:=gX) (m:=gX) (m':=gX) (s1:=fun ws=>(cU gX 5 (dO "Goes" (aJ (eD ws (ci 2)) (aJ (eD ws (ci 0)) aH)) [] j5))) (fun _ ws hR=>(dk 5 kG.nd (fL (dds:=[]) c_mk_Goes (hr.mono (by decide)) (aG (nV hR rfl (by rfl) (dg rfl) dz) (aG (nV hR rfl (by rfl) (dg rfl) dz) aR))))) (by rfl))
   (mI (by rfl) (AU (ro:=false) (mb:=gX) (m:=gX) (m':=gX) (s1:=fun ws=>(cU gX 6 (dO "Handing" (aJ (eD ws (ci 1)) (aJ (cz (aJ (ci 1) (aJ (ci 2) aH))) aH)) [] iS))) (fun _ ws hR=>(dk 6 kG.nd (fL (dds:=[]) c_mk_Handing (hr.mono (by decide)) (aG (nV hR rfl (by rfl) (dg rfl) dz) (aG (bE (cS (aV dz (aV dz bZ)))) aR))))) (by rfl))
   (mI (by rfl) (IJ (jr:=7) S_ rfl (by rfl) (by rfl) kG.nd (by rfl) (dg rfl) (by rfl) (gI rfl) (uT (Gq (lg (by decide)) (by rfl) (dg rfl)) (uT (Gp (lg (by decide)) (by rfl) (dg rfl) (fun _=>dz)) Gs)))
   (HV (aM (bQ (fg (fu hu64 (SO.toB (gM (aV (gC fo_ring (aI 5)) (aV (gC fo_ring (aI 6)) (aV (gC fo_owns (aI 5)) bZ))))) (aI 4)) (gm (fu hu64 (bE (gC fo_part (aI 6))) (bE (cS (aV dz (aV dz bZ))))))))
   aQ) (lg (by decide)))))))))⟩
def Kk:=Do.1
def Ko:=aX false kF Kk
abbrev DO:Stmt:=top 79
abbrev DU:List Str:=["_law_script","_law_n","_law_m","_law_wishes_here","_law_dealing","_law_table","_law_papers","_law_order"]
abbrev DX:List Str:=["_law_script","_law_n"]
def mY:FnScope DU DX (aE DO):=cq
def Dp:{B // ∀{P w K mg base} (T:Txt K mg) (A:DefAt K mg "_law_wider_well" DO) (c__law_cell:Callee P w K mg base "_law_cell" pB [] 1 false q0 j4) (c__law_wishes:Callee P w K mg base "_law_wishes" xG [] 2 false fR CJ) (c__law_order_dealt:Callee P w K mg base "_law_order_dealt" pF [] 2 false q0 lK) (c__law_sure:Callee P w K mg base "_law_sure" wW [] 1 false q0 Ci) (c_mk_Parted:CalleeN P w K mg base "Parted" "Parted" rh [] 8 [Md.bw] js) (c_mk_Rising:CalleeN P w K mg base "Rising" "Rising" rj [] 8 [Md.bw] iI) (c_mk_Handing:CalleeN P w K mg base "Handing" "Handing" rO [] 8 q0 iS) (c__law_says:Callee P w K mg base "_law_says" wV [] 9 false [.bw,.sh,.sh,.bw] jC) (c_mk_Ordered:CalleeN P w K mg base "Ordered" "Ordered" rP [] 8 [Md.bw] jq) (c_m_shows:CalleeM P w K mg base "shows" Bq 8 ky cL kz),Callee P w K mg base "_law_wider_well" DX [] 10 false q0 (aX false DU B)}:=⟨_,fun T A c__law_cell c__law_wishes c__law_order_dealt c__law_sure c_mk_Parted c_mk_Rising c_mk_Handing c__law_says c_mk_Ordered c_m_shows=>
 cX (m':=[.bw,.bw,.sh,.sh,.sh,.sh,.ow,.sh]) A mY fun f cdv A outer s H g E hr hu1=>(aM (dk 2 mY.nd (gU (bE (gU (aI 1) iB)) (bE (jg (bE (aZ c__law_cell (aG (aI 0) (aG iB aR)))) iB))))
   (aM (dk 3 mY.nd (aZ c__law_wishes (aG (aI 0) (aG iB (aG (aI 1) (aG (aI 2) aR))))))
   (aM (dk 4 mY.nd (aZ c__law_order_dealt (aG (aI 3) (aG (SO.toB (qr rfl (by rfl) T.b_list (by rfl) T.b_range (bK (aI 1) bJ))) aR))))
   (aM (dk 5 mY.nd (aZ c__law_sure (aG (aI 4) (aG (aI 2) aR))))
   (aM (ji 6 mY.nd (by rfl) (gI rfl) (gM (aV (fL (dds:=[]) c_mk_Rising (hr.mono (by decide)) (aG (bE (uM (bE (cS (aV dz bZ))) (aI 2))) aR)) (aV (fL (dds:=[]) c_mk_Rising (hr.mono (by decide)) (aG (bE (HR rfl (by rfl) T.b_tuple (by rfl) T.b_range (bK (aI 1) bJ))) aR)) (aV (fL (dds:=[]) c_mk_Parted (hr.mono (by decide)) (aG (SO.toB (gM (aV (cS (aV (cS (aV dz (aV dz bZ))) (aV (v_ 4) bZ))) bZ))) aR)) bZ)))))
   (aM (lW 6 rfl Za ZW ZX pf uO (by rfl) (dg rfl) (aV (fL (dds:=[]) c_mk_Handing (hr.mono (by decide)) (aG (bE (cS (aV (cS (aV dz (aV (gN hu1 (aI 4) iB) bZ))) (aV (cS (aV dz (aV (jg (bE (gU (xB hu1 (aI 4) iB) iB)) (aI 2)) bZ))) bZ)))) (aG (bE (cS (aV dz (aV dz bZ)))) aR))) bZ))
   (aM (cj (SW.toQ (df (dW (dA (bE (aZ c__law_says (aG (aI 6) (bF (v_ 3) (bF (v_ 4) (aG (bE ck) aR)))))))) (hW (dW (dA (bE (aZ c__law_says (aG (aI 6) (bF (v_ 3) (bF (v_ 5) (aG (bE ck) aR))))))))))) (aM (bQ ck)
   aQ)
   aQ)
   (aM (dk 7 mY.nd (fL (dds:=[]) c_mk_Ordered (hr.mono (by decide)) (aG (bE (HR rfl (by rfl) T.b_tuple (by rfl) T.b_range (bK (aI 1) bJ))) aR)))
   (aM (bQ (fg (FH (bE (AC c_m_shows (hr.mono (by decide)) (v_ 7) (bF (v_ 3) (bF (v_ 4) aR)))) (bE ck)) (gm (FH (bE (AC c_m_shows (hr.mono (by decide)) (v_ 7) (bF (v_ 3) (bF (v_ 5) aR)))) (bE ck)))))
   aQ)))))))))⟩
def Kl:=Dp.1
def Kp:=aX false DU Kl
abbrev zY:Stmt:=top 80
abbrev zL:List Str:=["_law_script","_law_n","_law_wishes_here","_law_order","_law_dealing","_law_table","_law_papers","_law_worse_here","_law_far","_law_empty","_law_others","_law_turn","_law_paper"]
abbrev Fe:List Str:=["_law_script"]
def iF:FnScope zL Fe (aE zY):=cq
abbrev OX:FS:=(seqF (gy il (iK (dG (cW (cg (aJ (gb (gv 6) (fun _=>Res.ok none) (km (ci 1))) (aJ (gv 2) (aJ (gv 4) (aJ (fun _=>Res.ok (D.bl true)) aH)))) [] jC))) (dG (cW (cg (aJ (gb (gv 6) (km (ci 1)) (fun _=>Res.ok none)) (aJ (gv 2) (aJ (gv 5) (aJ (fun _=>Res.ok (D.bl true)) aH)))) [] jC)))) (seqF (retF il (fun _=>Res.ok (D.bl false))) cG) cG) (seqF (gy il (iK (dG (cW (cg (aJ (gb (gv 6) (fun _=>Res.ok none) (km (ci 1))) (aJ (gv 2) (aJ (gv 5) (aJ (fun _=>Res.ok (D.bl false)) aH)))) [] jC))) (dG (cW (cg (aJ (gb (gv 6) (km (ci 1)) (fun _=>Res.ok none)) (aJ (gv 2) (aJ (gv 4) (aJ (fun _=>Res.ok (D.bl false)) aH)))) [] jC)))) (seqF (retF il (fun _=>Res.ok (D.bl false))) cG) cG) (seqF (gy il (iK (dG (cW (cg (aJ (f2 (gv 9) (gv 10) addA) (aJ (gv 2) (aJ (gv 4) (aJ (fun _=>Res.ok (D.bl false)) aH)))) [] jC))) (dG (cW (cg (aJ (f2 (gv 9) (gv 10) addA) (aJ (gv 2) (aJ (gv 5) (aJ (fun _=>Res.ok (D.bl false)) aH)))) [] jC)))) (seqF (retF il (fun _=>Res.ok (D.bl false))) cG) cG) cG)))
def yV:{B // ∀{P w K mg base} (T:Txt K mg) {fa:Addr} {fd:Zt} (A:Fun K "law" "law" zY fa fd) (c__law_cell:Callee P w K mg base "_law_cell" pB [] 1 false q0 j4) (c__law_wider_well:Callee P w K mg base "_law_wider_well" DX [] 10 false q0 Kp) (c__law_lists_kept:Callee P w K mg base "_law_lists_kept" DW [] 10 false cL Ko) (c__law_wishes:Callee P w K mg base "_law_wishes" xG [] 2 false fR CJ) (c__law_row:Callee P w K mg base "_law_row" qO [] 1 false [.sh,.bw] pq) (c__law_order_dealt:Callee P w K mg base "_law_order_dealt" pF [] 2 false q0 lK) (c__law_sure:Callee P w K mg base "_law_sure" wW [] 1 false q0 Ci) (c__law_kept:Callee P w K mg base "_law_kept" Cs [] 10 false [.sh,.sh,.sh,.sh] JG) (c__law_worse:Callee P w K mg base "_law_worse" CT [] 1 false cN wT) (c_mk_Betters:CalleeN P w K mg base "Betters" "Betters" CW [] 8 [Md.bw] lH) (c_mk_Ordered:CalleeN P w K mg base "Ordered" "Ordered" rP [] 8 [Md.bw] jq) (c_mk_Goes:CalleeN P w K mg base "Goes" "Goes" vQ [] 8 q0 j5) (c_mk_Handing:CalleeN P w K mg base "Handing" "Handing" rO [] 8 q0 iS) (c_mk_Rising:CalleeN P w K mg base "Rising" "Rising" rj [] 8 [Md.bw] iI) (c_mk_Parted:CalleeN P w K mg base "Parted" "Parted" rh [] 8 [Md.bw] js) (c__law_says:Callee P w K mg base "_law_says" wV [] 9 false [.bw,.sh,.sh,.bw] jC) (fo_way:dh K "way" nW),FnOk P w K mg base cH 11 fa fd Fe (jE K false [Md.sh] (aX false zL B))}:=⟨_,fun{P w K mg base} T {fa} {fd} A c__law_cell c__law_wider_well c__law_lists_kept c__law_wishes c__law_row c__law_order_dealt c__law_sure c__law_kept c__law_worse c_mk_Betters c_mk_Ordered c_mk_Goes c_mk_Handing c_mk_Rising c_mk_Parted c__law_says fo_way=>
 Ab (k:=10) (m':=il) A iF rfl fun cdv A outer s H g E hr=>
 have hu1:=gT hr;have hu64:=hr.units
 (aM (dk 1 iF.nd (gU iB (bE (jg (bE (aZ c__law_cell (aG (aI 0) (aG iB aR)))) iB))))
   (aM (cj (SW.toQ (df (dW (dA (bE (aZ c__law_lists_kept (bF (v_ 0) (bF (v_ 1) aR)))))) (hW (dW (dA (bE (aZ c__law_wider_well (aG (aI 0) (aG (aI 1) aR))))))))) (aM (bQ ck)
   aQ)
   aQ)
   (aM (dk 2 iF.nd (aZ c__law_wishes (aG (aI 0) (aG iB (aG (aI 1) (aG (aI 1) aR))))))
   (aM (dk 3 iF.nd (SO.toE (l8 (by rfl) T.b_list (bK (bE (aZ c__law_row (bF (aZ c__law_cell (aG (aI 0) (aG iB aR))) (aG (aI 1) aR)))) bJ))))
   (aM (dk 4 iF.nd (aZ c__law_order_dealt (aG (aI 2) (aG (aI 3) aR))))
   (aM (dk 5 iF.nd (aZ c__law_sure (aG (aI 4) (aG (aI 1) aR))))
   (aM (dk 6 iF.nd (aZ c__law_kept (bF (v_ 0) (bF (v_ 2) (bF (v_ 3) (bF (v_ 1) aR))))))
   (aM (cj (nq (aI 6) (bE kl)) (aM (bQ ck)
   aQ)
   aQ)
   (aM (dk 7 iF.nd (aZ c__law_worse (aG (aI 2) (aG (aI 4) (aG (aI 1) aR)))))
   (aM (dk 8 iF.nd (gU (bE (FK iB iB)) (bE (jg (bE (aZ c__law_cell (aG (aI 0) (aG iB aR)))) iB))))
   (aM (dk 9 iF.nd (SO.toE (gM (aV (fL (dds:=[]) c_mk_Goes (hr.mono (by decide)) (aG (bE (cS bZ)) (aG (bE (cS bZ)) aR))) (aV (fL (dds:=[]) c_mk_Ordered (hr.mono (by decide)) (aG (bE (cS bZ)) aR)) (aV (fL (dds:=[]) c_mk_Betters (hr.mono (by decide)) (aG (bE (cS (aV jY (aV (cS bZ) bZ)))) aR)) (aV (fL (dds:=[]) c_mk_Betters (hr.mono (by decide)) (aG (bE (cS (aV jY (aV (cS bZ) (aV dz bZ))))) aR)) bZ)))))))
   (aM (dk 9 iF.nd (gU (aI 9) (SO.toB (gM (aV (fL (dds:=[]) c_mk_Goes (hr.mono (by decide)) (aG (bE (uM (bE (cS (aV (v_ 8) bZ))) (aI 1))) (aG (bE (cS (aV (cS (aV (v_ 8) (aV (v_ 8) bZ))) bZ))) aR))) (aV (fL (dds:=[]) c_mk_Ordered (hr.mono (by decide)) (aG (SO.toB (Ly (gM (aV (v_ 8) bZ)) (aI 1))) aR)) (aV (fL (dds:=[]) c_mk_Betters (hr.mono (by decide)) (aG (bE (cS (aV jY (aV (cS (aV dz bZ)) (aV (v_ 8) bZ))))) aR)) bZ)))))))
   (aM (ji 10 iF.nd (by rfl) (gI rfl) (gM (aV (fL (dds:=[]) c_mk_Rising (hr.mono (by decide)) (aG (bE (cS bZ)) aR)) (aV (fL (dds:=[]) c_mk_Handing (hr.mono (by decide)) (aG (bE (cS bZ)) (aG (bE (cS (aV dz (aV dz bZ)))) aR))) (aV (fL (dds:=[]) c_mk_Parted (hr.mono (by decide)) (aG (bE (cS bZ)) aR)) (aV (fL (dds:=[]) c_mk_Rising (hr.mono (by decide)) (aG (bE (uM (bE (cS (aV (zV (aI 8)) bZ))) (aI 1))) aR)) (aV (fL (dds:=[]) c_mk_Handing (hr.mono (by decide)) (aG (bE (cS (aV (cS (aV dz (aV (v_ 8) bZ))) (aV (cS (aV (v_ 8) (aV dz bZ))) bZ)))) (aG (bE (cS (aV dz (aV (v_ 8) bZ)))) aR))) bZ)))))))
   (aM (lW 10 rfl Za ZW ZX pf uO (by rfl) (dg rfl) (aV (fL (dds:=[]) c_mk_Parted (hr.mono (by decide)) (aG (SO.toB (gM (aV (cS (aV (cS (aV dz (aV dz bZ))) (aV (uM (bE (cS (aV (v_ 8) bZ))) (aI 1)) bZ))) bZ))) aR)) bZ))
   (aM (li S_ rfl (jp (by rfl) T.b_range (bK iB bJ)) (cK 11 iF.nd) (aM (cj (SW.toQ (df (dW (dA (bE (aZ c__law_says (aG (bE (n8 (aI 6) oy (oE iB))) (bF (v_ 2) (bF (v_ 4) (aG (bE ck) aR)))))))) (hW (dW (dA (bE (aZ c__law_says (aG (bE (n8 (aI 6) (oE iB) oy)) (bF (v_ 2) (bF (v_ 5) (aG (bE ck) aR))))))))))) (aM (bQ ck)
   aQ)
   aQ)
   (aM (cj (SW.toQ (df (dW (dA (bE (aZ c__law_says (aG (bE (n8 (aI 6) oy (oE iB))) (bF (v_ 2) (bF (v_ 5) (aG (bE ck) aR)))))))) (hW (dW (dA (bE (aZ c__law_says (aG (bE (n8 (aI 6) (oE iB) oy)) (bF (v_ 2) (bF (v_ 4) (aG (bE ck) aR))))))))))) (aM (bQ ck)
   aQ)
   aQ)
   (aM (cj (SW.toQ (df (dW (dA (bE (aZ c__law_says (aG (bE (gU (aI 9) (aI 10))) (bF (v_ 2) (bF (v_ 4) (aG (bE ck) aR)))))))) (hW (dW (dA (bE (aZ c__law_says (aG (bE (gU (aI 9) (aI 10))) (bF (v_ 2) (bF (v_ 5) (aG (bE ck) aR))))))))))) (aM (bQ ck)
   aQ)
   aQ)
   aQ))))
   (aM (cj (nq (aI 7) (bE kl)) (aM (bQ ck)
   aQ)
   aQ)
   (aM (dk 12 iF.nd (fL (dds:=[]) c_mk_Betters (hr.mono (by decide)) (aG (xB hu1 (aI 7) iB) aR)))
   (aM (cj (SW.toQ (df (gW hu64 (bE (gC fo_way (aI 12))) (xB hu1 (aI 7) iB)) (hW (dW (dA (bE (aZ c__law_says (aG (SO.toB (gM (aV (v_ 12) bZ))) (bF (v_ 2) (bF (gN hu1 (aI 7) iB) (aG (bE ck) aR))))))))))) (aM (bQ ck)
   aQ)
   aQ)
   (aM (bQ (fg (aZ c__law_says (aG (SO.toB (gM (aV (v_ 12) bZ))) (bF (v_ 2) (bF (aZ c__law_sure (aG (xB hu1 (aI 7) iB) (aG (aI 1) aR))) (aG (bE ck) aR))))) (gm (aZ c__law_says (aG (SO.toB (gM (aV (v_ 12) bZ))) (bF (v_ 2) (bF (v_ 4) (aG (bE ck) aR))))))))
   aQ)))))))))))))))))))⟩
def Fo:=yV.1
def yU:=aX false zL Fo
end Law
namespace Law
open PySem L2 DL
abbrev nD(k:Nat):D:=.int (k:Int)
abbrev LN(l:List Nat):D:=.lst (l.map nD)
abbrev TN(l:List Nat):D:=.tup (l.map nD)
def oD:Option Nat->D
|none=>.non
|some k=>nD k
abbrev WD(rz:List (List Nat)):D:=.tup (rz.map TN)
def nc{ds:List D}(h:ds.length<=1000):sz ds=some ds:=K9 (Y8 h (by rw[J_];decide))
@[simp] def addA_int(a b:Int):addA (.int a) (.int b)=some (.int (a+b)):=rfl
def Hw{a b:Int}(h:iA a b):d5 (.int a) (.int b)=some (.int (a*b)):=by rw[d5,intsC_int,if_pos h]
def Hv{a b:Int}(h:0<b):dm (.int a) (.int b)=some (.int (a%b)):=by rw[dm,intsC_int,if_pos h]
def QU{a b:Int}(h:jb a b):pO (.int a) (.int b)=some (.int (a/b)):=by rw[pO,intsC_int,if_pos h]
def aU{s1 s2:FS}{r r':aL}(h:s1 r=.nx r'):seqF s1 s2 r=s2 r':=by unfold seqF;rw[h]
def aY{s1 s2:FS}{r:aL}{d:D}(h:s1 r=.rt d):seqF s1 s2 r=.rt d:=by unfold seqF;rw[h]
def cJ{m:List Md}{i:Nat}{f:FE}{r:aL}{d:D}(h:f r=.ok d):cU m i f r=.nx (r.set i (some d)):=by unfold cU;rw[h];rfl
def bV{m:List Md}{f:FE}{r:aL}{d:D}(h:f r=.ok d):retF m f r=.rt d:=by unfold retF;rw[h];rfl
def Fb{m:List Md}{p:FQ}{s1 s2:FS}{r:aL}{b:Bool}(h:p r=.ok b):gy m p s1 s2 r=if b=true then s1 r else s2 r:=by unfold gy;rw[h];rfl
def cO{m:List Md}{p:FQ}{s1 s2:FS}{r:aL}(h:p r=.ok true):gy m p s1 s2 r=s1 r:=by rw[Fb h,if_pos rfl]
def cp{m:List Md}{p:FQ}{s1 s2:FS}{r:aL}(h:p r=.ok false):gy m p s1 s2 r=s2 r:=by rw[Fb h,if_neg k_]
def dB{fl:aL->Res (List D)}{r:aL}{ds:List D}(h:fl r=.ok ds)(hl:ds.length<=1000):cz fl r=.ok (.tup ds):=by unfold cz;rw[h,bind_ok,nc hl];rfl
def hX{fl:aL->Res (List D)}{r:aL}{ds:List D}(h:fl r=.ok ds)(hl:ds.length<=1000):ig fl r=.ok (.lst ds):=by unfold ig;rw[h,bind_ok,nc hl];rfl
def vG{ds:List D}{d:D}(h:ds.length<=1000):appD (.lst ds) [d]=some (.lst (ds++[d])):=by show(if ds.length<sizeLine then some (D.lst (ds++[d]))else none)=_;rw[if_pos (by rw[J_];omega)]
def aW{fl:aL->Res (List D)}{dds zs:List D}{F:List D->Res D}{r:aL}{d:D}(h1:fl r=.ok zs)(h2:F (zs++dds)=.ok d):cg fl dds F r=.ok d:=by unfold cg;rw[h1,bind_ok,h2];rfl
def fJ{f:FE}{k:D->Option D}{r:aL}{a d:D}(h1:f r=.ok a)(h2:k a=some d):f1 f k r=.ok d:=by unfold f1;rw[h1,bind_ok,h2];rfl
def aT{f f':FE}{k:D->D->Option D}{r:aL}{a b d:D}(h1:f r=.ok a)(h2:f' r=.ok b)(h3:k a b=some d):f2 f f' k r=.ok d:=by unfold f2;rw[h1,bind_ok,h2,bind_ok,h3];rfl
def bU{fl:aL->Res (List D)}{k:List D->Option D}{r:aL}{ds:List D}{d:D}(h1:fl r=.ok ds)(h2:k ds=some d):fC fl k r=.ok d:=by unfold fC;rw[h1,bind_ok,h2];rfl
def aF{f:FE}{fl:aL->Res (List D)}{r:aL}{d:D}{ds:List D}(h1:f r=.ok d)(h2:fl r=.ok ds):aJ f fl r=.ok (d::ds):=by unfold aJ;rw[h1,bind_ok,h2];rfl
def aK{r:aL}:aH r=.ok []:=rfl
def eY{f:FE}{r:aL}{b:Bool}(h:f r=.ok (.bl b)):dY f r=.ok b:=by unfold dY;rw[h];rfl
def dc{f:FE}{r:aL}{d:D}{b:Bool}(h:f r=.ok d)(h2:jD d=some b):cW f r=.ok b:=by unfold cW;rw[h,bind_ok,h2];rfl
def dL{p:FQ}{r:aL}{b:Bool}(h:p r=.ok b):dG p r=.ok (! b):=by unfold dG;rw[h];rfl
def zM{p q:FQ}{r:aL}(h:p r=.ok true):iq p q r=q r:=by unfold iq;rw[h];rfl
def Fg{p q:FQ}{r:aL}(h:p r=.ok false):iq p q r=.ok false:=by unfold iq;rw[h];rfl
def fZ{p q:FQ}{r:aL}(h:p r=.ok true):iK p q r=.ok true:=by unfold iK;rw[h];rfl
def dE{p q:FQ}{r:aL}(h:p r=.ok false):iK p q r=q r:=by unfold iK;rw[h];rfl
def eV{f f':FE}{r:aL}(h:f r=.ok (.bl true)):fQ f f' r=f' r:=by unfold fQ;rw[h];rfl
def jz{f f':FE}{r:aL}(h:f r=.ok (.bl false)):fQ f f' r=.ok (.bl false):=by unfold fQ;rw[h];rfl
def fV{m:List Md}{fi:FI}{ft:FT}{b:FS}{r:aL}{ds:List D}(h:fi r=.ok ds):lT m fi ft b r=bG ft b ds r:=by unfold lT;rw[h];rfl
def jy{f:FE}{r:aL}{d:D}{ds:List D}(h:f r=.ok d)(h2:cZ d=some ds):bS cZ f r=.ok ds:=by unfold bS;rw[h,bind_ok,h2];rfl
def ia{ft:FT}{b:FS}{r:aL}:bG ft b [] r=.nx r:=by unfold bG;rfl
def gD{ft:FT}{b:FS}{r r1 r':aL}{d:D}{ds:List D}(h1:ft d r=some r1)(h2:b r1=.nx r'):bG ft b (d::ds) r=bG ft b ds r':=by
 conv=>lhs;unfold bG
 simp only[h1,h2]
def oq{ft:FT}{b:FS}{r r1:aL}{d v:D}{ds:List D}(h1:ft d r=some r1)(h2:b r1=.rt v):bG ft b (d::ds) r=.rt v:=by
 conv=>lhs;unfold bG
 simp only[h1,h2]
def ma{T:String}{m:List Md}{i:Nat}{fl:aL->Res (List D)}{mk:D->List D->Option D}{r:aL}{d d':D}{ds:List D}(h1:r[i]? = some (some d))(h2:yJ T d=true)(h3:fl r=.ok ds)(h4:mk d ds=some d'):f8 T m i fl mk r=.nx (r.set i (some d')):=by unfold f8;rw[h1];simp only[h2,if_true,h3,onE_ok,h4]
def l9{m:List Md}{i:Nat}{fk fv:FE}{r:aL}{d k v d':D}(h1:r[i]? = some (some d))(h2:fv r=.ok v)(h3:fk r=.ok k)(h4:dS d k v=some d'):DL.putF m i fk fv r=.nx (r.set i (some d')):=by unfold DL.putF;rw[h2,onE_ok];simp only[h1,h3,onE_ok,h4]
def Q4{ft:FT}{q:FQ}{fe:FE}{r0:aL}:gB ft q fe r0 []=.ok []:=by unfold gB;rfl
def Je{ft:FT}{q:FQ}{fe:FE}{r0:aL}{α:Type}(e:α->D)(keep:α->Bool)(g:α->D):∀(l:List α),(∀a∈l,∃r1,ft (e a) r0=some r1/\q r1=.ok (keep a)/\(keep a=true->fe r1=.ok (g a)))->gB ft q fe r0 (l.map e)=.ok ((l.filter keep).map g)
|[],_=>Q4
|a::l,h=>by
  obtain⟨r1,h1,h2,h3⟩:=h a r_;have ih:=Je (ft:=ft) (q:=q) (fe:=fe) (r0:=r0) e keep g l fun b hb=>h b (m_ _ hb);rw[U_]
  conv=>lhs;unfold gB
  rw[h1,opt_some,bind_ok,h2,bind_ok];cases k:keep a with
 |true=>rw[if_pos rfl,h3 k,bind_ok,ih,bind_ok,Qcp,if_pos k];rfl
 |false=>rw[if_neg k_,ih,Qcp,if_neg (by rw[k];exact k_)]
def ku{nl:Nat}{cap:List Nat}{fi:FI}{ft:FT}{q:FQ}{fe:FE}{r:aL}{α:Type}{l:List α}(e:α->D)(keep:α->Bool)(g:α->D)(h1:fi r=.ok (l.map e))(hl:l.length<=1000)(h:∀a∈l,∃r1,ft (e a) (cF nl cap r)=some r1/\q r1=.ok (keep a)/\(keep a=true->fe r1=.ok (g a))):eR nl cap fi ft q fe r=.ok (.lst ((l.filter keep).map g)):=by unfold eR;rw[h1,bind_ok,nc (by simpa using hl),opt_some,bind_ok,Je e keep g l h,noXL_ok,bind_ok]
def t8(a b:Nat):lO (nD a) (nD b)=some (.bl (decide (a<b))):=by show some (D.bl (decide ((a:Int)<(b:Int))))=_;simp only[Int.ofNat_lt]
def zI(a b:Nat):nC (nD a) (nD b)=some (.bl (decide (b<a))):=by show some (D.bl (decide ((b:Int)<(a:Int))))=_;simp only[Int.ofNat_lt]
def jf(a b:Nat):eqD (nD a) (nD b)=some (.bl (decide (a=b))):=by
 unfold eqD;rw[eqB_int];show some (D.bl ((a:Int)==(b:Int)))=_;have:((a:Int)==(b:Int))=decide (a=b):=by rw[Zc,beq_iff_eq,decide_eq_true_iff];exact QaJ
 rw[this]
def uA(a b:Nat):neD (nD a) (nD b)=some (.bl (! decide (a=b))):=by
 unfold neD;rw[eqB_int];show some (D.bl (!((a:Int)==(b:Int))))=_;have:((a:Int)==(b:Int))=decide (a=b):=by rw[Zc,beq_iff_eq,decide_eq_true_iff];exact QaJ
 rw[this]
def uK{B:FS}{n:Nat}{ds:List D}{d:D}(h:B (c7 n ds)=.rt d):dU false (B (c7 n ds))=.ok d:=by rw[h];rfl
abbrev kI(k:Nat):bH:=Sum.inl (k:Int)
def L5(kvs:List (Nat×D))(k:Nat):gL (kvs.map fun p=>(kI p.1,p.2)) (kI k)=decide (k∈kvs.map (·.1)):=by
 unfold gL;rw[QaD,Zc,ZU,decide_eq_true_iff,V_];constructor
 .rintro⟨p,h1,h2⟩
  refine⟨p,h1,?_⟩;simp only[Qaa,decide_eq_true_eq]at h2;have:((p.1:Nat):Int)=(k:Int):=QdW h2;exact Int.ofNat.inj this
 .rintro⟨p,h1,rfl⟩
  exact⟨p,h1,by simp⟩
def Qd(kvs:List (Nat×D))(k:Nat)(d:D)(h:k∉kvs.map (·.1)):d4 (kvs.map fun p=>(kI p.1,p.2)) (kI k) d=(kvs++[(k,d)]).map fun p=>(kI p.1,p.2):=by unfold d4;have e:((kvs.map fun p=>(kI p.1,p.2)).any fun kv=>decide (kv.1=kI k))=decide (k∈kvs.map (·.1)):=L5 kvs k;rw[e,decide_eq_false h,if_neg k_,Q_];rfl
@[simp] def e_skip(r:aL):cG r=.nx r:=rfl
@[simp] def e_tupL(ds:List D):tupD [.lst ds]=some (.tup ds):=rfl
def gl{ds:List D}{i:Nat}{d:D}(h:ds[i]? = some d):bP (.tup ds) (nD i)=some d:=by have hl:i<ds.length:=(i_.mp h).1;show gR ds (i:Int)=some d;unfold gR gu;rw[if_pos (Qb7 i),if_pos (by omega)];simpa using h
def kg{ds:List D}{i:Nat}{d:D}(h:ds[i]? = some d):bP (.lst ds) (nD i)=some d:=by have hl:i<ds.length:=(i_.mp h).1;show gR ds (i:Int)=some d;unfold gR gu;rw[if_pos (Qb7 i),if_pos (by omega)];simpa using h
@[simp] def ixA_L0(d:D)(ds:List D):bP (.lst (d::ds)) (.int 0)=some d:=kg (i:=0) rfl
@[simp] def ixA_T0(d:D)(ds:List D):bP (.tup (d::ds)) (.int 0)=some d:=gl (i:=0) rfl
def yX{kvs:List (bH×D)}{k:Nat}{d:D}(h:cM kvs (kI k)=some d):bP (.dic kvs) (nD k)=some d:=h
def sY(l:List Nat)(k:Nat):(l.map nD).any (fun y=>gZ y (nD k))=decide (k∈l):=by
 rw[QaD,Zc,ZU,decide_eq_true_iff];constructor
 .rintro⟨x,h1,h2⟩
  have:(((x:Nat):Int)==(k:Int))=true:=h2;have:=QaJ.mp (Z5 this);subst this;exact h1
 .intro h;exact⟨k,h,by show(((k:Nat):Int)==(k:Int))=true;simp⟩
def zH(l:List Nat):(l.map nD).all dZ=true:=by rw[Ze];intro x hx;obtain⟨k,_,rfl⟩:=V_.mp hx;rfl
def Fc(l:List Nat)(k:Nat):jN (nD k) (LN l)=some (.bl (decide (k∈l))):=by show(if dZ (nD k)=true/\(l.map nD).all dZ=true then some ((l.map nD).any fun y=>gZ y (nD k))else none).map D.bl=_;rw[if_pos ⟨rfl,zH l⟩,sY];rfl
def M6(l:List Nat)(k:Nat):gY (nD k) (LN l)=some (.bl (! decide (k∈l))):=by show(if dZ (nD k)=true/\(l.map nD).all dZ=true then some ((l.map nD).any fun y=>gZ y (nD k))else none).map (fun b=>D.bl (! b))=_;rw[if_pos ⟨rfl,zH l⟩,sY];rfl
def mH{α:Type}(f:α->D)(l:List α):lenD [.tup (l.map f)]=some (nD l.length):=by show some (D.int ((l.map f).length:Int))=_;rw[q_]
def Bm{α:Type}(f:α->D)(l:List α):lenD [.lst (l.map f)]=some (nD l.length):=by show some (D.int ((l.map f).length:Int))=_;rw[q_]
def Q1{α:Type}(f:α->bH×D)(l:List α):lenD [.dic (l.map f)]=some (nD l.length):=by show some (D.int ((l.map f).length:Int))=_;rw[q_]
def P6(n:Nat):eqD (nD n) (nD n)=some (.bl true):=by have e:=jf n n;rw[decide_eq_true rfl]at e;exact e
def AK(n:Nat):eG 0 n=(g_ n).map nD:=by unfold eG;refine QaY fun i _=>?_;show D.int (0+(i:Int))=D.int (i:Int);rw[Int.zero_add]
def Qz(j:Int):tZ [.int j]=if-(2^62)<=j/\j<2^62/\j.toNat<=sizeLine then some (.lst (eG 0 j.toNat))else none:=rfl
def qw{n:Nat}(h:n<=1000):tZ [nD n]=some (LN (g_ n)):=by
 have hs:(n:Int).toNat<=sizeLine:=by rw[Zy,J_];omega
 rw[Qz,if_pos ⟨by omega,by omega,hs⟩,Zy,AK]
def Pu(j:Int):eO [.int j]=if-(2^62)<=j/\j<2^62 then some (eG 0 j.toNat)else none:=rfl
def jh{n:Nat}(h:n<=1000):eO [nD n]=some ((g_ n).map nD):=by rw[Pu,if_pos ⟨by omega,by omega⟩,Zy,AK]
def jj{fl:aL->Res (List D)}{k:List D->Option (List D)}{r:aL}{ds es:List D}(h1:fl r=.ok ds)(h2:k ds=some es):fE k fl r=.ok es:=by unfold fE;rw[h1,bind_ok,h2];rfl
def Jy{p:Nat->Bool}:∀(l:List Nat),l.find? p=(l.filter p).head?
|[]=>rfl
|a::l=>by rw[R_,Qcp];cases h:p a with
 |true=>simp
 |false=>simpa using Jy l
def own(oz:List (Option Nat))(h:Nat):Option Nat:=(oz[h]?).join
abbrev KD(kvs:List (Nat×Nat)):D:=.dic (kvs.map fun p=>(kI p.1,nD p.2))
def qe{a b:Nat}(h:kI a=kI b):a=b:=QaJ.mp (QdW h)
def BA:∀{kvs:List (Nat×Nat)}{h:Nat}{f:Nat->Nat},(∀p∈kvs,p.2=f p.1)->h∈kvs.map (·.1)->cM (kvs.map fun p=>(kI p.1,nD p.2)) (kI h)=some (nD (f h))
|[],_,_,_,hh=>by cases hh
|p::kvs,h,f,hf,hh=>by
  by_cases e:p.1=h
  .have:=hf p r_;subst e;simp[cM,R_,this]
  .have hne:¬ kI p.1=kI h:=fun z=>e (qe z);have U:h∈kvs.map (·.1):=by
    rcases e_.mp hh with z|z
    .exact absurd z.symm e
    .exact z
   have ih:=BA (f:=f) (fun q hq=>hf q (m_ _ hq)) U;have e1:cM ((p::kvs).map fun p=>(kI p.1,nD p.2)) (kI h)=cM (kvs.map fun p=>(kI p.1,nD p.2)) (kI h):=by simp only[cM,U_,R_];rw[decide_eq_false hne]
   rw[e1];exact ih
def putN(kvs:List (Nat×Nat))(k v:Nat):List (Nat×Nat):=if k∈kvs.map (·.1)then kvs.map fun p=>if p.1=k then(p.1,v)else p else kvs++[(k,v)]
def EH(kvs:List (Nat×Nat))(k:Nat):((kvs.map fun p=>(kI p.1,nD p.2)).any fun kv=>decide (kv.1=kI k))=decide (k∈kvs.map (·.1)):=by
 rw[QaD,Zc,ZU,decide_eq_true_iff,V_];constructor
 .rintro⟨p,h1,h2⟩
  simp only[Qaa,decide_eq_true_eq]at h2;exact⟨p,h1,qe h2⟩
 .rintro⟨p,h1,rfl⟩
  exact⟨p,h1,by simp⟩
def MT(kvs:List (Nat×Nat))(k v:Nat):d4 (kvs.map fun p=>(kI p.1,nD p.2)) (kI k) (nD v)=(putN kvs k v).map fun p=>(kI p.1,nD p.2):=by
 unfold d4 putN;rw[EH];by_cases h:k∈kvs.map (·.1)
 .rw[decide_eq_true h,if_pos rfl,if_pos h,L_,L_];refine QaY fun p _=>?_;simp only[Qaa];by_cases e:p.1=k
  .rw[if_pos (by rw[e]),if_pos e]
  .rw[if_neg (fun z=>e (qe z)),if_neg e]
 .rw[decide_eq_false h,if_neg k_,if_neg h,Q_];rfl
def RF(kvs:List (Nat×Nat))(k v j:Nat):j∈(putN kvs k v).map (·.1)↔j∈kvs.map (·.1)\/j=k:=by
 unfold putN;by_cases h:k∈kvs.map (·.1)
 .rw[if_pos h,L_];have:((fun p:Nat×Nat=>p.1)∘fun p=>if p.1=k then(p.1,v)else p)=fun p=>p.1:=by funext p;simp only[Qaa];split <;> rfl
  rw[this];constructor
  .exact .inl
  .rintro(z|rfl)
   .exact z
   .exact h
 .rw[if_neg h];simp
def Qe{kvs:List (Nat×Nat)}{k v:Nat}{f:Nat->Nat}(h:∀p∈kvs,p.2=f p.1)(hv:v=f k):∀p∈putN kvs k v,p.2=f p.1:=by
 intro p hp;unfold putN at hp;split at hp
 .obtain⟨q,h1,rfl⟩:=V_.mp hp;split
  .rename_i e;simp only;rw[e];exact hv
  .exact h q h1
 .rcases QaE.mp hp with z|z
  .exact h p z
  .rw[H_.mp z];exact hv
def Np{kvs:List (Nat×Nat)}{k v:Nat}(hl:kvs.length<=1000):dS (KD kvs) (nD k) (nD v)=some (KD (putN kvs k v)):=by show(if (kvs.map fun p=>(kI p.1,nD p.2)).length<sizeLine then some (D.dic (d4 _ (kI k) (nD v)))else none)=_;rw[if_pos (by rw[q_,J_];omega),MT]
structure GI(t:Nat->Nat)(kvs:List (Nat×Nat))(L:List Nat):Prop where
 nd:(kvs.map (·.1)).Nodup
 val:∀p∈kvs,p.2=t p.1
 key:∀h,h∈kvs.map (·.1)↔h∈L
def Pr{kvs:List (Nat×Nat)}{k v:Nat}(h:(kvs.map (·.1)).Nodup):((putN kvs k v).map (·.1)).Nodup:=by
 unfold putN;split
 .rw[L_];have:((fun p:Nat×Nat=>p.1)∘fun p=>if p.1=k then(p.1,v)else p)=fun p=>p.1:=by funext p;simp only[Qaa];split <;> rfl
  rw[this];exact h
 .rename_i hk;rw[Q_];refine QdI.mpr ⟨h,by simp,fun a ha b hb=>?_⟩;simp at hb
  rintro rfl
  exact hk (hb▸ha)
def GI.put{t:Nat->Nat}{kvs:List (Nat×Nat)}{L:List Nat}(g:GI t kvs L)(k:Nat):GI t (putN kvs k (t k)) (L++[k]):=⟨Pr g.nd,Qe g.val rfl,fun h=>by rw[RF,g.key];simp⟩
def GI.len{t:Nat->Nat}{kvs:List (Nat×Nat)}{L line:List Nat}(g:GI t kvs L)(hs:∀h∈L,h∈line):kvs.length<=line.length:=by have:=Rg.Bn (m:=line) g.nd fun h hh=>hs h ((g.key h).mp hh);simpa using this
def GI.nil(t:Nat->Nat):GI t [] []:=⟨by simp,fun _ hp=>(nomatch hp),fun h=>by simp⟩
def vR{α:Type}(l:List α):l.filter (fun _=>true)=l:=List.filter_eq_self.mpr fun _ _=>rfl
def GI.full{t:Nat->Nat}{kvs:List (Nat×Nat)}{L:List Nat}{n:Nat}(g:GI t kvs L)(h:∀x,x∈L↔x<n):kvs.length=n:=by have h1:=g.len (line:=g_ n) fun x hx=>s_.mpr ((h x).mp hx);have h2:=Rg.Bn (l:=g_ n) (m:=kvs.map (·.1)) Zn fun x hx=>(g.key x).mpr ((h x).mpr (s_.mp hx));simp at h1 h2;omega
def Wr(rz:List (List Nat))(h:Nat):List Nat:=(rz[h]?).getD []
def AL{rz:List (List Nat)}{h:Nat}(hh:h<rz.length):(rz.map TN)[h]? = some (TN (Wr rz h)):=by rw[x_];unfold Wr;rw[o_ hh];rfl
def qg{a b:Nat}(h:0<b):dm (nD a) (nD b)=some (nD (a%b)):=by rw[Hv (by omega:(0:Int)<(b:Int))];show some (D.int _)=some (D.int _);rw[Int.natCast_emod]
def OQ{a b:Nat}(h:0<b)(h2:b<1000):pO (nD a) (nD b)=some (nD (a/b)):=by rw[QU (⟨by omega,by omega⟩:jb (a:Int) (b:Int))];show some (D.int _)=some (D.int _);rw[Int.natCast_ediv]
def lu(a b:Nat):addA (nD a) (nD b)=some (nD (a+b)):=by rw[addA_int];show some (D.int _)=some (D.int _);rw[Int.natCast_add]
section
variable{f f':FE}{r:aL}
def om{b:Int}(h:∃i:Int,f r=.ok (.int i))(h':f' r=.ok (.int b))(hb:0<b):∃c:Nat,f2 f f' dm r=.ok (nD c):=by obtain⟨i,hi⟩:=h;refine⟨(i%b).toNat,aT hi h' ?_⟩;rw[Hv hb];show some (D.int _)=some (D.int _);rw[Qc4 (Int.emod_nonneg _ (by omega))]
def Kv(h:∃c:Nat,f r=.ok (nD c)):∃i:Int,f r=.ok (.int i):=let⟨c,e⟩:=h;⟨c,e⟩
def l6{b:Int}(h:∃i:Int,f r=.ok (.int i))(h':f' r=.ok (.int b))(hb : -(2^64)<b/\b<2^64):∃i:Int,f2 f f' d5 r=.ok (.int i):=by obtain⟨i,hi⟩:=h;exact⟨i*b,aT hi h' (Hw (.inr hb))⟩
def tV(h:∃i:Int,f r=.ok (.int i))(h':∃i:Int,f' r=.ok (.int i)):∃i:Int,f2 f f' addA r=.ok (.int i):=by obtain⟨i,hi⟩:=h;obtain⟨j,hj⟩:=h';exact⟨i+j,aT hi hj rfl⟩
end
def E5{m:List Md}{i:Nat}{f:FE}{s2:FS}{r:aL}(h:∃c:Nat,f r=.ok (nD c))(k:∀c:Nat,∃d:Nat,s2 (r.set i (some (nD c)))=.rt (nD d)):∃d:Nat,seqF (cU m i f) s2 r=.rt (nD d):=by obtain⟨c,hc⟩:=h;obtain⟨d,hd⟩:=k c;exact⟨d,(aU (cJ hc)).trans hd⟩
abbrev IN(ns:List Int):D:=.lst (ns.map .int)
def pe(ns:List Int)(k:Nat)(hk:k<=1000):∃c:Nat,j4 [IN ns,nD k]=.ok (nD c):=by
 suffices h:∃c:Nat,wE (c7 4 [IN ns,nD k])=.rt (nD c)by obtain⟨c,hc⟩:=h;exact⟨c,uK (B:=wE) (n:=4) hc⟩
 unfold wE;have st:seqF (cU fw 2 (ci 0))=seqF (cU fw 2 (fun _=>Res.ok (nD 0))):=rfl;rw[st];refine E5 ⟨0,rfl⟩ fun c1=>?_;show ∃d:Nat,seqF _ _ [some (IN ns),some (nD k),some (nD c1),none]=_;have key:∃c2:Nat,(gy fw (dY (f2 (gv 1) (fC (aJ (gv 0) aH) lenD) lO)) (seqF (cU fw 2 (f2 (f2 (gv 0) (gv 1) bP) (f2 (ci 10) (ci 60) io) dm)) cG) cG) [some (IN ns),some (nD k),some (nD c1),none]=.nx [some (IN ns),some (nD k),some (nD c2),none]:=by
  have t:=eY (aT (f:=gv 1) (r:=[some (IN ns),some (nD k),some (nD c1),none]) (a:=nD k) rfl (bU (aF (f:=gv 0) (d:=IN ns) rfl aK) (Bm _ _)) (t8 k ns.length));by_cases z:k<ns.length
  .rw[decide_eq_true z]at t;have hx:(ns.map D.int)[k]? = some (.int ns[k]):=by rw[x_,o_ z];rfl
   have hp:io (.int 10) (.int 60)=some (.int (10^60)):=by show jx hJ _ _ _=_;rw[intsC_int,if_pos (by unfold hJ;decide)];rfl
   obtain⟨c2,h2⟩:=om (f:=f2 (gv 0) (gv 1) bP) (f':=f2 (ci 10) (ci 60) io) (r:=[some (IN ns),some (nD k),some (nD c1),none]) ⟨ns[k],aT (a:=IN ns) (b:=nD k) rfl rfl (kg hx)⟩ (aT rfl rfl hp) (by decide);exact⟨c2,(cO t).trans ((aU (cJ h2)).trans rfl)⟩
  .rw[decide_eq_false z]at t;exact⟨c1,(cp t).trans rfl⟩
 obtain⟨c2,h2⟩:=key;rw[aU h2];have kq:∃b,(iq (dY (f2 (fC (aJ (gv 0) aH) lenD) (ci 0) nC)) (dY (f2 (f2 (f2 (gv 0) (ci 0) bP) (ci 2) dm) (ci 0) eqD))) [some (IN ns),some (nD k),some (nD c2),none]=.ok b:=by have t:=eY (aT (f:=fC (aJ (gv 0) aH) lenD) (f':=fun _=>Res.ok (D.int 0)) (r:=[some (IN ns),some (nD k),some (nD c2),none]) (b:=nD 0) (bU (aF (d:=IN ns) rfl aK) (Bm _ _)) rfl (zI ns.length 0));cases ns with
 |nil=>exact⟨false,Fg t⟩
 |cons a ns=>rw[decide_eq_true (by simp)]at t;obtain⟨c3,h3⟩:=om (f:=f2 (gv 0) (ci 0) bP) (f':=fun _=>Res.ok (D.int 2)) (r:=[some (IN (a::ns)),some (nD k),some (nD c2),none]) ⟨a,aT (a:=IN (a::ns)) (b:=.int 0) rfl rfl (ixA_L0 _ _)⟩ rfl (by decide);exact⟨_,(zM t).trans (eY (aT h3 (b:=nD 0) rfl (jf c3 0)))⟩
 obtain⟨b,hb⟩:=kq;cases b with
|true=>exact⟨c2,aY ((cO hb).trans (aY (bV (d:=nD c2) rfl)))⟩
|false=>rw[aU ((cp (s2:=cG) hb).trans (e_skip _))];refine E5 (om (l6 (Kv (om (l6 (tV (tV (tV ⟨(c2:Int),rfl⟩ (l6 (b:=(k:Int)) (l6 (b:=(k:Int)) ⟨7,rfl⟩ rfl (by omega)) rfl (by omega))) (l6 (b:=(k:Int)) ⟨13,rfl⟩ rfl (by omega))) ⟨5,rfl⟩) rfl (by decide)) rfl (by decide))) rfl (by decide)) rfl (by decide)) fun c3=>?_;obtain⟨c4,h4⟩:=om (f:=(f2 (f2 (f2 (f2 (gv 3) (ci 1) addA) (ci 40692) d5) (ci 2147483629) dm) (ci 39373) d5)) (f':=fun _=>Res.ok (D.int 999999937)) (r:=[some (IN ns),some (nD k),some (nD c2),some (nD c3)]) (l6 (Kv (om (l6 (tV ⟨(c3:Int),rfl⟩ ⟨1,rfl⟩) rfl (by decide)) rfl (by decide))) rfl (by decide)) rfl (by decide);exact⟨c4,aY (bV h4)⟩
def QY{row:List Nat}{i:Int}{x:Nat}:dF (row.map nD) i (nD x)=(dF row i x).map nD:=by unfold dF;rw[q_,Q_,U_,Qdc,Qdd]
def RQ{row:List Nat}{i:Int}{x:Nat}:(dF row i x).Perm (x::row):=by unfold dF;refine List.perm_middle.trans ?_;rw[List.take_append_drop]
def Iz(m:Nat):∀(j i c:Nat)(row:List Nat)(x:Option D),row.Perm (g_ i)->i+j<=60 ->∃(c':Nat)(z:List Nat)(x':Option D),z.Perm (g_ (i+j))/\bG (bY 3) JT ((QdZ i j).map nD) [some (nD c),some (nD m),some (LN row),x]=.nx [some (nD c'),some (nD m),some (LN z),x']
|0,i,c,row,x,hp,_=>⟨c,row,x,hp,ia⟩
|j+1,i,c,row,x,hp,hl=>by
  have hlen:row.length=i:=by rw[hp.length_eq];simp
  obtain⟨c',z,x',h1,h2⟩:=Iz m j (i+1) (c/(i+1)) (dF row ((c%(i+1):Nat):Int) i) (some (nD i)) (by refine RQ.trans ?_;rw[QbN];exact(List.Perm.cons i hp).trans (List.perm_append_singleton i _).symm) (by omega);refine⟨c',z,x',by rw[show i+(j+1)=i+1+j by omega];exact h1,?_⟩;rw[<-h2];have U:c%(i+1)<i+1:=Nat.mod_lt _ (by omega);refine gD (r1:=[some (nD c),some (nD m),some (LN row),some (nD i)]) rfl ?_;refine(aU (ma (d:=LN row) (ds:=[nD (c%(i+1)),nD i]) (d':=LN (dF row ((c%(i+1):Nat):Int) i)) rfl rfl (aF (aT (a:=nD c) (b:=nD (i+1)) rfl (aT (a:=nD i) (b:=nD 1) rfl rfl (lu i 1)) (qg (by omega))) (aF (d:=nD i) rfl aK)) ?_)).trans ?_
  .show(if _ then some (D.lst (dF _ _ _))else none)=_;rw[if_pos ⟨by rw[q_,J_];omega,by omega,by omega⟩,QY]
  .exact aU (cJ (d:=nD (c/(i+1))) (aT (a:=nD c) (b:=nD (i+1)) rfl (aT (a:=nD i) (b:=nD 1) rfl rfl (lu i 1)) (OQ (by omega) (by omega))))
def AS(c m:Nat)(hm:m<=60):∃row:List Nat,row.Perm (g_ m)/\pq [nD c,nD m]=.ok (TN row):=by obtain⟨c',z,x',h1,h2⟩:=Iz m m 0 c [] none (by simp) (by omega);rw[QdE]at h1;rw[<-QcU]at h2;refine⟨z,h1,uK (B:=B2) (n:=4) ?_⟩;unfold B2;refine(aU (cJ (d:=LN []) (hX aK (by simp)))).trans ?_;refine(aU ((fV (ds:=(g_ m).map nD) (jj (aF (d:=nD m) rfl aK) (jh (by omega)))).trans h2)).trans ?_;exact aY (bV (bU (aF (d:=LN z) rfl aK) rfl))
end Law
namespace Law
open PySem PyProof.Rows L2 DL
def Lh(a b:Nat):gZ (nD a) (nD b)=decide (a=b):=by show(((a:Nat):Int)==(b:Int))=_;rw[Zc,beq_iff_eq,decide_eq_true_iff];exact QaJ
def A3(k:Nat):∀l:List Nat,k∈l->iP (nD k) (l.map nD)=some (l.idxOf k)
|[],h=>by cases h
|a::l,h=>by
  show(if gZ (nD a) (nD k)=true then some 0 else(iP (nD k) (l.map nD)).map (· + 1))=_;rw[Lh];by_cases e:a=k
  .rw[if_pos (by simpa using e)];subst e;simp
  .rw[if_neg (by simpa using e),A3 k l ((e_.mp h).resolve_left fun z=>e z.symm)];have hf:(a==k)=false:=by simpa using e
   rw[Qea,hf];rfl
def GT(k:Nat):∀l:List Nat,(l.map nD).eraseIdx (l.idxOf k)=(l.erase k).map nD
|[]=>rfl
|a::l=>by
  by_cases e:a=k
  .subst e;simp
  .rw[Qea,List.erase_cons_tail (by simpa using e)];have:(a==k)=false:=by simpa using e
   rw[this];show nD a::(l.map nD).eraseIdx (l.idxOf k)=_;rw[GT k l];rfl
def Gj{k:Nat}{l:List Nat}(h:k∈l):remD (LN l) [nD k]=some (LN (l.erase k)):=by show(if (l.map nD).all isInt=true then(iP (nD k) (l.map nD)).map fun j=>D.lst ((l.map nD).eraseIdx j)else none)=_;rw[if_pos (by rw[Ze];intro x hx;obtain⟨y,_,rfl⟩:=V_.mp hx;rfl),A3 k l h];show some (D.lst _)=some (D.lst _);rw[GT]
def Bl{k:Nat}{l:List Nat}(h:k∈l):mw (TN l) [nD k]=some (nD (l.idxOf k)):=by show(if dZ (nD k)=true/\(l.map nD).all dZ=true then(iP (nD k) (l.map nD)).map fun j=>D.int j else none)=_;rw[if_pos ⟨rfl,zH l⟩,A3 k l h];rfl
def zG{T:String}{fo:FE}{fl:aL->Res (List D)}{k:D->List D->Option D}{r:aL}{d d':D}{ds:List D}(h1:fo r=.ok d)(ht:yI T d=true)(h2:fl r=.ok ds)(h3:k d ds=some d'):fM T fo fl k r=.ok d':=by unfold fM;rw[h1,bind_ok,if_pos ht,h2,bind_ok,h3];rfl
def Jg:∀l l':List Nat,Zh (zbP (l.map nD)) (zbP (l'.map nD))=decide (l=l')
|[],[]=>by simp[zbP,Zh]
|[],k::l=>by simp[zbP,Zh]
|k::l,[]=>by simp[zbP,Zh]
|k::l,k'::l'=>by have ih:=Jg l l';simp only[U_,zbP,bI,Zh,ZF,ih];rw[Zc];simp;omega
def FM{l:List Nat}{k:Nat}:∀d∈l.map nD,cP k d:=by intro d hd;obtain⟨x,_,rfl⟩:=V_.mp hd;cases k <;> trivial
def LU(l l':List Nat):g6 (TN l) (TN l')=some (decide (l=l')):=by rw[oW rfl (iG.mpr FM) (iG.mpr FM)];unfold iL;simp only[bI,ZF,Jg]
def LV(l l':List Nat):eqD (TN l) (TN l')=some (.bl (decide (l=l'))):=by unfold eqD;rw[LU];rfl
def oR{f:FE}{r:aL}{i:Int}(h:f r=.ok (.int i)):km f r=.ok (some i):=by unfold km;rw[h];rfl
def AD{ds:List D}{i:Nat}{v:D}(h:i<ds.length):dS (.lst ds) (nD i) v=some (.lst (ds.set i v)):=by show(gu ds.length (i:Int)).map _=_;unfold gu;rw[if_pos (Qb7 i),if_pos (by omega)];simp
def gq{nl:Nat}{cap:List Nat}{fi:FI}{ft:FT}{fe:FE}{r:aL}{α:Type}{l:List α}(e:α->D)(g:α->D)(h1:fi r=.ok (l.map e))(hl:l.length<=1000)(h:∀a∈l,∃r1,ft (e a) (cF nl cap r)=some r1/\fe r1=.ok (g a)):eR nl cap fi ft (fun _=>Res.ok true) fe r=.ok (.lst (l.map g)):=by
 have:=ku (q:=fun _=>Res.ok true) e (fun _=>true) g h1 hl fun a ha=>by obtain⟨r1,q1,q2⟩:=h a ha;exact⟨r1,q1,rfl,fun _=>q2⟩
 rw[this,vR]
def Ht(row things:List Nat)(z:D):∀(l:List Nat)(y:Option D),(match l.find? (fun h=>decide (h∈things))with
  |some h=>bG (bY 2) xF (l.map nD) [some z,some (LN things),y]=.rt (nD h)
  |none=>∃y',bG (bY 2) xF (l.map nD) [some z,some (LN things),y]=.nx [some z,some (LN things),y'])
|[],y=>⟨y,ia⟩
|h::l,y=>by have c:(dY (f2 (gv 2) (gv 1) jN)) [some z,some (LN things),some (nD h)]=.ok (decide (h∈things)):=eY (aT (a:=nD h) (b:=LN things) rfl rfl (Fc _ _));rw[R_];cases e:decide (h∈things)with
 |true=>rw[e]at c;refine oq (r1:=[some z,some (LN things),some (nD h)]) rfl ?_;exact aY ((cO c).trans (aY (bV (d:=nD h) rfl)))
 |false=>rw[e]at c;have ih:=Ht row things z l (some (nD h));have st:bG (bY 2) xF ((h::l).map nD) [some z,some (LN things),y]=bG (bY 2) xF (l.map nD) [some z,some (LN things),some (nD h)]:=gD (r1:=[some z,some (LN things),some (nD h)]) rfl ((aU (cp c)).trans rfl);rw[st];exact ih
def Sl{row things:List Nat}(h:∃x∈row,x∈things):wG [TN row,LN things]=.ok (nD (Rg.best row things)):=by
 refine cf (n:=3) ?_
 dsimp only[Jz,Bs]
 have hl:=Ht row things (TN row) row none;unfold Rg.best;cases e:row.find? fun x=>decide (x∈things)with
|none=>obtain⟨x,h1,h2⟩:=h;have:=Qb6.mp e x h1;simp[h2]at this
|some k=>rw[e]at hl;exact aY ((fV (ds:=row.map nD) rfl).trans hl)
end Law
namespace Law
open PySem L2 DL
def Tu(k:Nat):kB [nD k]=.ok (.bl true):=rfl
def SH{row:List Nat}{rest:List (List Nat)}:mL [WD (row::rest)]=.ok (nD row.length):=by
 refine cf (n:=1) ?_
 dsimp only[JF,oG]
 exact aY (bV (bU (aF (aT (a:=WD (row::rest)) (b:=.int 0) rfl rfl (ixA_T0 _ _)) aK) (mH _ _)))
def Qj{row things:List Nat}(h:∃x∈row,x∈things)(hl:row.length<=1000):wH [TN row,LN things]=.ok (nD (Rg.best row things)):=by
 refine cf (n:=2) ?_
 dsimp only[JD,Bv]
 have hc:(eR 1 [1] (bS cZ (gv 0)) (bY 0) (dY (f2 (gv 0) (gv 1) jN)) (gv 0)) [some (TN row),some (LN things)]=.ok (LN (row.filter fun x=>decide (x∈things))):=by
  refine ku nD (fun x=>decide (x∈things)) nD (l:=row) rfl hl fun a _=>⟨[some (nD a),some (LN things)],rfl,?_,fun _=>rfl⟩
  exact eY (aT (a:=nD a) (b:=LN things) rfl rfl (Fc _ _))
 have hb:∃t,(row.filter fun x=>decide (x∈things))=Rg.best row things::t:=by unfold Rg.best;rw[Jy];cases e:row.filter fun x=>decide (x∈things)with
 |nil=>obtain⟨x,h1,h2⟩:=h;have:x∈row.filter fun x=>decide (x∈things):=Z7.mpr ⟨h1,by simpa using h2⟩;rw[e]at this;cases this
 |cons a t=>exact⟨t,rfl⟩
 obtain⟨t,ht⟩:=hb;rw[ht]at hc;exact aY (bV (aT hc (b:=.int 0) rfl (ixA_L0 _ _)))
def JK(ns:List Int)(at' n m:Nat)(ha:at'<=60)(hn:n<=60)(hm:m<=60):∃rz:List (List Nat),rz.length=n/\(∀row∈rz,row.Perm (g_ m))/\CJ [IN ns,nD at',nD n,nD m]=.ok (WD rz):=by
 have h:∀h:Nat,∃row:List Nat,h<=60->row.Perm (g_ m)/\∃c:Nat,j4 [IN ns,nD (at'+h)]=.ok (nD c)/\pq [nD c,nD m]=.ok (TN row):=by
  intro h;by_cases hh:h<=60
  .obtain⟨c,hc⟩:=pe ns (at'+h) (by omega);obtain⟨row,h1,h2⟩:=AS c m hm;exact⟨row,fun _=>⟨h1,c,hc,h2⟩⟩
  .exact⟨[],fun z=>absurd z hh⟩
 obtain⟨g,hg⟩:=Classical.axiomOfChoice h;refine⟨(g_ n).map g,by simp,fun row hr=>?_,cf (n:=4) ?_⟩
 .obtain⟨i,hi,rfl⟩:=V_.mp hr;exact(hg i (by have:=s_.mp hi;omega)).1
 .dsimp only[J5,BU]
  refine aY (bV (bU (aF (ku (l:=g_ n) nD (fun _=>true) (fun h=>TN (g h)) (jj (aF (d:=nD n) rfl aK) (jh (by omega))) (by simp;omega) fun h hh=>⟨[some (nD h),some (nD m),some (IN ns),some (nD at')],rfl,rfl,fun _=>?_⟩) aK) ?_))
  .obtain⟨_,c,h1,h2⟩:=hg h (by have:=s_.mp hh;omega);exact aW (aF (aW (aF (d:=IN ns) rfl (aF (aT (a:=nD at') (b:=nD h) rfl rfl (lu at' h)) aK)) h1) (aF (d:=nD m) rfl aK)) h2
  .rw[vR,e_tupL];show some (D.tup _)=some (D.tup _);rw[L_];rfl
end Law
namespace Law
open PySem PyProof.Rows L2 DL
section
structure Rws(rz:List (List Nat))(n m:Nat):Prop where
 n1:1<=n
 n7:n<=7
 nm:n<=m
 m8:m<=8
 rl:rz.length=n
 rp:∀row∈rz,row.Perm (g_ m)
section
variable{rz:List (List Nat)}{n m:Nat}
def Rws.row(R:Rws rz n m){h:Nat}(hh:h<n):(Wr rz h).Perm (g_ m):=by unfold Wr;rw[o_ (by rw[R.rl];exact hh)];exact R.rp _ (Qae _)
def Rws.has(R:Rws rz n m){h x:Nat}(hh:h<n)(hx:x<m):x∈Wr rz h:=(R.row hh).mem_iff.mpr (s_.mpr hx)
def Rws.one(R:Rws rz n m){h:Nat}{T:List Nat}(hh:h<n)(hT:0<T.length)(hm:∀x∈T,x<m):∃x∈Wr rz h,x∈T:=⟨T[0],R.has hh (hm _ (Qae _)),Qae _⟩
def Rws.lbest(R:Rws rz n m){h:Nat}{T:List Nat}(hh:h<n)(hT:0<T.length)(hm:∀x∈T,x<m):wG [TN (Wr rz h),LN T]=.ok (nD (Rg.best (Wr rz h) T)):=Sl (R.one hh hT hm)
def Rws.inT(R:Rws rz n m){h:Nat}{T:List Nat}(hh:h<n)(hT:0<T.length)(hm:∀x∈T,x<m):Rg.best (Wr rz h) T∈T:=Rg.F9 (R.one hh hT hm)
def Rws.at0(R:Rws rz n m):∃r rest,rz=r::rest/\r.length=m:=by cases e:rz with
|nil=>have:=R.rl;have:=R.n1;rw[e]at *;simp at *;omega
|cons r rest=>exact⟨r,rest,rfl,by rw[(R.rp r (by rw[e];exact r_)).length_eq];simp⟩
def Rws.things(R:Rws rz n m):mL [WD rz]=.ok (nD m):=by obtain⟨r,rest,e,hl⟩:=R.at0;rw[e,SH,hl]
def Rws.ix0(R:Rws rz n m):∃r0,bP (WD rz) (.int 0)=some (TN r0)/\lenD [TN r0]=some (nD m):=by obtain⟨r,rest,e,hl⟩:=R.at0;exact⟨r,by rw[e];exact ixA_T0 _ _,by rw[mH,hl]⟩
def Rws.len(R:Rws rz n m):lenD [WD rz]=some (nD n):=by rw[mH,R.rl]
def dOf(dl:List Nat)(h:Nat):Nat:=dl.getD h 0
def tT{dl:List Nat}{h:Nat}(hh:h<dl.length):(dl.map nD)[h]? = some (nD (dOf dl h)):=by rw[x_,o_ hh];unfold dOf;rw[A_,o_ hh];rfl
def Mn{dl:List Nat}(h:dl.length=n):(g_ n).map (dOf dl)=dl:=by
 refine Qbp fun i=>?_;rw[x_];by_cases hi:i<n
 .rw[Zx hi,o_ (by omega)];unfold dOf;rw[Z8,A_,o_ (by omega)];rfl
 .rw[ZS (by simp;omega),ZS (by omega)];rfl
end
open PySem PyProof.Rows L2 DL
structure Dl(rz:List (List Nat))(dl:List Nat)(n m:Nat):Prop where
 R:Rws rz n m
 dn:dl.length=n
 nd:dl.Nodup
 lt:∀x∈dl,x<m
section
variable{rz:List (List Nat)}{dl:List Nat}{n m:Nat}
def OI{h:Nat}(hh:h<dl.length):dOf dl h∈dl:=by unfold dOf;rw[A_,o_ hh];exact Qae _
def GP(hn:dl.Nodup){h l:Nat}(hh:h<dl.length)(hl:l<dl.length)(e:dOf dl h=dOf dl l):h=l:=by
 unfold dOf at e;rw[A_,o_ hh,A_,o_ hl]at e;simp only[QdU]at e;have:=List.pairwise_iff_getElem.mp hn;rcases Nat.lt_trichotomy h l with z|z|z
 .exact absurd e (this h l hh hl z)
 .exact z
 .exact absurd e.symm (this l h hl hh z)
def Dl.dlt(D:Dl rz dl n m){h:Nat}(hh:h<n):dOf dl h<m:=D.lt _ (OI (by rw[D.dn];exact hh))
def Dl.at(D:Dl rz dl n m){h:Nat}(hh:h<n):bP (TN dl) (nD h)=some (nD (dOf dl h)):=gl (tT (by rw[D.dn];exact hh))
def Dl.rw'(D:Dl rz dl n m){h:Nat}(hh:h<n):bP (WD rz) (nD h)=some (TN (Wr rz h)):=gl (AL (by rw[D.R.rl];exact hh))
def IS(D:Dl rz dl n m){h x y:Nat}(hh:h<n)(hx:x<m)(hy:y<m):vD [WD rz,nD h,nD x,nD y]=.ok (.bl (decide (Rg.lk (Wr rz) h x y))):=by
 refine cf (n:=5) ?_
 dsimp only[Hc,uE]
 refine(aU (cJ (aT rfl rfl (D.rw' hh)))).trans ?_;exact aY (bV (aT (zG rfl rfl (aF rfl aK) (Bl (D.R.has hh hx))) (zG rfl rfl (aF rfl aK) (Bl (D.R.has hh hy))) (t8 _ _)))
end
def GC(f:Nat->D):∀{T:List Nat}{x:Nat},x∈T->cM (T.map fun x=>(kI x,f x)) (kI x)=some (f x)
|[],_,h=>by cases h
|y::T,x,h=>by
  by_cases e:y=x
  .subst e;simp[cM,R_]
  .have hne:¬ kI y=kI x:=fun z=>e (qe z);have ih:=GC f (T:=T) (x:=x) ((e_.mp h).resolve_left fun z=>e z.symm);have e1:cM ((y::T).map fun x=>(kI x,f x)) (kI x)=cM (T.map fun x=>(kI x,f x)) (kI x):=by simp only[cM,U_,R_];rw[decide_eq_false hne]
   rw[e1];exact ih
def Nq{T:List Nat}{f:Nat->D}{x:Nat}(h:x∉T)(hl:T.length<=1000):dS (.dic (T.map fun x=>(kI x,f x))) (nD x) (f x)=some (.dic ((T++[x]).map fun x=>(kI x,f x))):=by
 show(if (T.map fun x=>(kI x,f x)).length<sizeLine then some (D.dic (d4 _ (kI x) (f x)))else none)=_;rw[if_pos (by rw[q_,J_];omega)];have:=Qd (T.map fun y=>(y,f y)) x (f x) (by rw[L_];simpa[Qbq]using h);rw[L_]at this;show some (D.dic (d4 (T.map fun x=>(kI x,f x)) (kI x) (f x)))=_;have e:d4 (T.map fun x=>(kI x,f x)) (kI x) (f x)=(T++[x]).map fun x=>(kI x,f x):=by refine Eq.trans this ?_;rw[Q_,L_,Q_];rfl
 rw[e]
abbrev SD(E:Nat->List Nat)(n:Nat):D:=.dic ((g_ n).map fun x=>(kI x,LN (E x)))
section
variable{E:Nat->List Nat}{n:Nat}
def K7{x:Nat}(h:x<n):bP (SD E n) (nD x)=some (LN (E x)):=yX (GC (fun x=>LN (E x)) (s_.mpr h))
end
section
variable{rz:List (List Nat)}{dl:List Nat}{n m:Nat}
def Qu{l:List Nat}{i:Nat}(h:i<=l.length):kL (LN l) (some (i:Int)) none=some (LN (l.drop i)):=by show some (D.lst (dM (l.map nD) (some (i:Int)) none))=_;unfold dM;rw[HT.fP,HT.eB,q_,Qeb h,Qbo (by simp)];show some (D.lst _)=some (D.lst ((l.drop i).map nD));rw[Qdd]
def oJ{fa:FE}{fl fh:FP}{r:aL}{d d':D}{lo hi:Option Int}(h1:fa r=.ok d)(h2:fl r=.ok lo)(h3:fh r=.ok hi)(h4:kL d lo hi=some d'):gb fa fl fh r=.ok d':=by unfold gb;rw[h1,bind_ok,h2,bind_ok,h3,bind_ok,h4];rfl
end
open PySem PyProof.Rows L2 DL
inductive Wy where
 |ring (r:List Nat)|line (r:List Nat) (x:Nat)
def Wy.hands:Wy->List Nat
|.ring r=>r
|.line r _=>r
def jt:Wy->DL.D
|.ring r=>.tup [.str "ring",TN r]
|.line r x=>.tup [.str "line",TN r,nD x]
def Wy.kind:Wy->Str
|.ring _ => "ring"
|.line _ _ => "line"
def Wy.last(dl:List Nat):Wy->Nat
|.ring r=>dOf dl (r.headD 0)
|.line _ x=>x
def Wy.things(dl:List Nat)(w:Wy):List Nat:=w.hands.tail.map (dOf dl)++[w.last dl]
def RY(w:Wy):bP (jt w) (.int 1)=some (TN w.hands):=by cases w <;> exact gl (i:=1) rfl
def Mq(w:Wy)(k:Str)(b:Bool)(h:(w.kind==k)=b):(dw (bP (jt w) (.int 0))).bind (fun d=>dw (eqD d (.str k)))=.ok (.bl b):=by cases w with
|ring r=>rw[show bP (jt (.ring r)) (.int 0)=some (.str "ring")from ixA_T0 _ _,opt_some,bind_ok];unfold eqD;rw[eqB_str,show(("ring" : Str)==k)=b from h];rfl
|line r x=>rw[show bP (jt (.line r x)) (.int 0)=some (.str "line")from ixA_T0 _ _,opt_some,bind_ok];unfold eqD;rw[eqB_str,show(("line" : Str)==k)=b from h];rfl
def IF:∀(l r:List Nat),QaU (fun a b=>DL.D.tup [a,b]) (l.map nD) (r.map nD)=(l.zip r).map fun p=>DL.D.tup [nD p.1,nD p.2]
|[],_=>rfl
|_::_,[]=>rfl
|a::l,b::r=>by show DL.D.tup [nD a,nD b]::QaU _ (l.map nD) (r.map nD)=_;rw[IF l r];rfl
def OP{fa fb:FE}{r:aL}{d e:DL.D}{ds es:List DL.D}(h1:fa r=.ok d)(h2:fb r=.ok e)(h3:cZ d=some ds)(h4:cZ e=some es):nF fa fb r=.ok (QaU (fun a b=>DL.D.tup [a,b]) ds es):=by unfold nF;rw[h1,bind_ok,h2,bind_ok,h3,opt_some,bind_ok,h4,opt_some,bind_ok]
def Mc{a b:List Nat}(h:a.length+b.length<=1000):addE (TN a) (TN b)=some (TN (a++b)):=by cases a with
|nil=>rfl
|cons x a=>show(if ((x::a).map nD).length+(b.map nD).length<=sizeLine then some (DL.D.tup ((x::a).map nD++b.map nD))else none)=_;rw[if_pos (by rw[q_,q_,J_];omega),<-Q_]
def Sj{l:List Nat}{i:Nat}(h:i<=l.length):kL (TN l) (some (i:Int)) none=some (TN (l.drop i)):=by show some (DL.D.tup (dM (l.map nD) (some (i:Int)) none))=_;unfold dM;rw[HT.fP,HT.eB,q_,Qeb h,Qbo (by simp)];show some (DL.D.tup _)=some (DL.D.tup ((l.drop i).map nD));rw[Qdd]
def Qv(l:List Nat)(k:Nat):kL (TN l) none (some (k:Int))=some (TN (l.take k)):=by show some (DL.D.tup (dM (l.map nD) none (some (k:Int))))=_;unfold dM;rw[HT.fP,HT.eB,q_,Qeu,Nat.sub_zero,<-Qdc];show some (DL.D.tup _)=some (DL.D.tup ((l.take k).map nD));rw[QcJ.mpr (by omega:min (min k l.length) l.length=min k l.length)]
def Tc{a:Nat}{l:List Nat}(hl:l.length<=900):mR [TN (a::l)]=.ok (TN (l++[a])):=by
 refine cf (n:=1) ?_
 dsimp only[CI,wZ]
 exact aY (bV (aT (oJ rfl (oR (i:=((1:Nat):Int)) rfl) rfl (Sj (by simp))) (oJ rfl rfl (oR (i:=((1:Nat):Int)) rfl) (Qv (a::l) 1)) (Mc (by simp;omega))))
abbrev c4(rz:List (List Nat))(dl:List Nat)(a:DL.D)(h:Nat)(l_:aL):aL:=some (WD rz)::some (TN dl)::some (a)::some (nD h)::some (nD (dOf dl h))::l_
section
variable{rz:List (List Nat)}{dl:List Nat}{n m:Nat}
def IU{l:List Nat}{y x:Nat}:dS (LN (l++[y])) (.int (-1)) (nD x)=some (LN (l++[x])):=by show(gu ((l++[y]).map nD).length (-1)).map _=_;unfold gu;rw[if_neg (by omega),if_pos (by simp;omega)];simp only[Z8,q_,Y3,Qbt];rw[show(-1+((l.length+1:Nat):Int)).toNat=l.length by omega,Q_];show some (DL.D.lst _)=some (DL.D.lst ((l++[x]).map nD));rw[List.set_append_right _ _ (by simp),Q_];simp
def OM{f f':FE}{k k':DL.D->DL.D->Option DL.D}{r:aL}{a b c:DL.D}{g:FE}(h1:f r=.ok a)(h2:g r=.ok b)(hc:f' r=.ok c)(h:(dw (k a b)).bind (fun d=>dw (k' d c))=.ok (.bl true)\/(dw (k a b)).bind (fun d=>dw (k' d c))=.ok (.bl false)):f2 (f2 f g k) f' k' r=(dw (k a b)).bind (fun d=>dw (k' d c)):=by unfold f2;rw[h1,bind_ok,h2,bind_ok];cases e:dw (k a b)with
|ok d=>rw[bind_ok,hc,bind_ok];rfl
|exc x=>rfl
|stuck=>rfl
def Gz{i:Nat}{r:aL}{w:Wy}{k:Str}{b:Bool}(hr:r[i]? = some (some (jt w)))(h:(w.kind==k)=b):(dY (f2 (f2 (fun r=>c8 r i) (fun _=>Res.ok (DL.D.int 0)) bP) (fun _=>Res.ok (DL.D.str k)) eqD)) r=.ok b:=by have hw:=Mq w k b h;have e:=OM (f:=fun r=>c8 r i) (g:=fun _=>Res.ok (DL.D.int 0)) (f':=fun _=>Res.ok (DL.D.str k)) (k:=bP) (k':=eqD) (r:=r) (a:=jt w) (b:=.int 0) (c:=.str k) (by show c8 r i=_;unfold c8;rw[hr]) rfl rfl (by rw[hw];cases b;exact .inr rfl;exact .inl rfl);exact eY (e.trans hw)
def Ui(D:Dl rz dl n m){w:Wy}(hw:w.hands≠[])(U:∀h∈w.hands,h<n)(hl:w.hands.length<=60):rS [TN dl,jt w]=.ok (LN (w.things dl)):=by
 refine cf (n:=3) ?_
 dsimp only[Db,wP]
 cases hh:w.hands with
|nil=>exact absurd hh hw
|cons a t=>
  rw[hh]at U hl;have z:=RY w;rw[hh]at z;have e1:(cU im 2 (eR 1 [0] (bS cZ (cg (aJ (f2 (gv 1) (fun _=>Res.ok (DL.D.int 1)) bP) aH) [] mR)) (bY 0) (fun _=>Res.ok true) (f2 (gv 1) (gv 0) bP))) [some (TN dl),some (jt w),none]=.nx [some (TN dl),some (jt w),some (LN (t.map (dOf dl)++[dOf dl a]))]:=by
   have:=gq (nl:=1) (cap:=[0]) (fi:=bS cZ (cg (aJ (f2 (gv 1) (fun _=>Res.ok (DL.D.int 1)) bP) aH) [] mR)) (ft:=bY 0) (fe:=f2 (gv 1) (gv 0) bP) (r:=[some (TN dl),some (jt w),none]) (l:=t++[a]) nD (fun h=>nD (dOf dl h)) (jy (aW (aF (d:=TN (a::t)) (aT rfl rfl z) aK) (Tc (by simp at hl;omega))) rfl) (by simp at hl ⊢;omega) fun h hm=>⟨[some (nD h),some (TN dl)],rfl,aT rfl rfl (D.at (U h (by simpa[or_comm]using hm)))⟩
   refine cJ (this.trans ?_);show Res.ok (DL.D.lst _)=Res.ok (DL.D.lst ((t.map (dOf dl)++[dOf dl a]).map nD));rw[Q_,Q_,L_];rfl
  refine(aU e1).trans ?_;have Y:w.things dl=t.map (dOf dl)++[w.last dl]:=by unfold Wy.things;rw[hh];rfl
  refine(aU (r':=[some (TN dl),some (jt w),some (LN (w.things dl))]) ?_).trans ?_
  .rw[Y];cases w with
  |ring r=>have:r=a::t:=hh;subst this;exact(cp (Gz (w:=.ring (a::t)) rfl rfl)).trans rfl
  |line r x=>refine(cO (Gz (w:=.line r x) rfl rfl)).trans ?_;exact aU (l9 (d:=LN (t.map (dOf dl)++[dOf dl a])) (k:=.int (-1)) (v:=nD x) rfl (aT rfl rfl (gl rfl)) rfl IU)
  exact aY (bV (d:=LN (w.things dl)) rfl)
end
open PySem PyProof.Rows L2 DL
def wr:Bool->List DL.D->DL.D
|true,ds=>.tup ds
|false,ds=>.lst ds
def uP(t:Bool)(ds:List DL.D):cZ (wr t ds)=some ds:=by cases t <;> rfl
def As(t:Bool)(ds:List DL.D):lenD [wr t ds]=some (nD ds.length):=by cases t <;> rfl
def qm{f:FE}{r:aL}{d:DL.D}{ds:List DL.D}(h:f r=.ok d)(h2:cZ d=some ds):jO f r=.ok (db 0 ds):=by unfold jO;rw[h,bind_ok,h2,opt_some,bind_ok]
def oi:Option Int->DL.D
|none=>.non
|some i=>.int i
abbrev ju(ks:List Nat):List (Option Int):=ks.map fun k:Nat=>some (k:Int)
structure Gd1(b:Nat)(l:List (Option Int))(ks:List Nat):Prop where
 eq:l=ju ks
 nd:ks.Nodup
 lt:∀k∈ks,k<b
def Gd(b:Nat)(l:List (Option Int)):Prop:=∃ks,Gd1 b l ks
abbrev TD(T:List Nat):DL.D:=.dic (T.map fun t=>(kI t,DL.D.bl true))
def F3(T:List Nat)(k:Nat):((T.map fun t=>(kI t,DL.D.bl true)).any fun kv=>decide (kv.1=kI k))=decide (k∈T):=by
 rw[QaD,Zc,ZU,decide_eq_true_iff];constructor
 .rintro⟨p,h1,h2⟩
  simp only[Qaa,decide_eq_true_eq]at h2;exact qe h2▸h1
 .intro h;exact⟨k,h,by simp⟩
def Lq(T:List Nat)(k:Nat):jN (nD k) (TD T)=some (.bl (decide (k∈T))):=by rw[<-F3];rfl
def Nr{T:List Nat}{k:Nat}(h:k∉T)(hl:T.length<=1000):dS (TD T) (nD k) (.bl true)=some (TD (T++[k])):=by show(if (T.map fun t=>(kI t,DL.D.bl true)).length<sizeLine then some (DL.D.dic (d4 _ (kI k) (DL.D.bl true)))else none)=_;rw[if_pos (by rw[q_,J_];omega)];unfold d4;rw[F3,decide_eq_false h,if_neg k_];show _=some (DL.D.dic (ZL _ (T++[k])));rw[Q_];rfl
def G6(h:Int)(b:Nat):lE [.int h,nD b]=.ok (.bl (decide (0<=h/\h<b))):=by
 refine cf (n:=2) ?_
 dsimp only[vW,qE]
 refine aY (bV ?_);rw[eV (aW (aF rfl aK) (show kB [.int h]=.ok (.bl true)from rfl))];show((if decide ((0:Int)<=h)=true then(Res.ok (DL.D.bl (decide (h<(b:Int)))))else .ok (.bl false)))=_;by_cases c:0<=h
 .rw[if_pos (by simpa using c)];congr 2;rw[decide_eq_decide];exact⟨fun z=>⟨c,z⟩,fun z=>z.2⟩
 .rw[if_neg (by simpa using c),decide_eq_false (fun z=>c z.1)]
def Oz(b:Nat):lE [.non,nD b]=.ok (.bl false):=by
 refine cf (n:=2) ?_
 dsimp only[vW,qE]
 refine aY (bV ?_);rw[jz (aW (aF rfl aK) (show kB [.non]=.ok (.bl false)from rfl))]
def fw_loop(b:Nat)(Y:DL.D):∀(U:List (Option Int))(pre:List Nat)(x y:Option DL.D),pre.length+U.length<=900->pre.Nodup->(∀k∈pre,k<b) ->(Gd b (ju pre++U)/\∃T x' y',bG (iZ (fK (bY 3) (fK (bY 4) iQ))) pE (db pre.length (U.map oi)) [some Y,some (nD b),some (TD pre),x,y]=.nx [some Y,some (nD b),some (TD T),x',y']) \/(¬ Gd b (ju pre++U)/\∃k,k<pre.length+U.length/\bG (iZ (fK (bY 3) (fK (bY 4) iQ))) pE (db pre.length (U.map oi)) [some Y,some (nD b),some (TD pre),x,y]=.rt (nD k))
|[],pre,x,y,_,nd,lt=>.inl ⟨⟨pre,by rw[Zl],nd,lt⟩,pre,x,y,ia⟩
|o::U,pre,x,y,hl,nd,lt=>by
  rw[T_]at hl;have Z:(∀k:Nat,o=some (k:Int)->k<b->k∈pre)->¬ Gd b (ju pre++o::U):=fun h ⟨ks,e,n1,l1⟩=>by
   have hk:∃k,o=some ((k:Nat):Int)/\ks[pre.length]? = some k:=by have:=congrArg (fun l=>l[pre.length]?) e;simp only[x_]at this;rw[Qah (by simp)]at this;simp at this;cases hq:ks[pre.length]? with
   |none=>rw[hq]at this;simp at this
   |some k=>rw[hq]at this;exact⟨k,by simpa using this,rfl⟩
   obtain⟨k,ho,hk⟩:=hk;have BT:=h k ho (l1 k (Z0 hk));obtain⟨i,hi,ei⟩:=QbR BT;have h2:ks[i]? = some k:=by have:=congrArg (fun l=>l[i]?) e;simp only[x_]at this;rw[Y4 (by simpa using hi),x_,o_ hi]at this;cases hq:ks[i]? with
   |none=>rw[hq]at this;simp at this
   |some k'=>rw[hq]at this;simp at this;rw[<-ei];congr 1;omega
   have:=(List.getElem?_inj (i:=i) (j:=pre.length) (by have:=(i_.mp h2).1;exact this) n1).mp (h2.trans hk.symm);omega
  have tup:db pre.length ((o::U).map oi)=DL.D.tup [nD pre.length,oi o]::db (pre.length+1) (U.map oi):=rfl;rw[tup];have ret:(iK (dG (cW (cg (aJ (gv 4) (aJ (gv 1) aH)) [] lE))) (dY (f2 (gv 4) (gv 2) jN))) [some Y,some (nD b),some (TD pre),some (nD pre.length),some (oi o)]=.ok true->∃k,k<pre.length+(o::U).length/\bG (iZ (fK (bY 3) (fK (bY 4) iQ))) pE (DL.D.tup [nD pre.length,oi o]::db (pre.length+1) (U.map oi)) [some Y,some (nD b),some (TD pre),x,y]=.rt (nD k):=fun h=>⟨pre.length,by rw[T_];omega,oq (r1:=[some Y,some (nD b),some (TD pre),some (nD pre.length),some (oi o)]) rfl (aY ((cO h).trans (aY (bV (d:=nD pre.length) rfl))))⟩
  cases o with
 |none=>refine .inr ⟨Z fun k hk=>(nomatch hk),ret ?_⟩;exact fZ (dL (b:=false) (dc (aW (aF rfl (aF rfl aK)) (Oz b)) rfl))
 |some i=>
   have hb:=G6 i b;by_cases hi:0<=i/\i<(b:Int)
   .obtain⟨k,rfl⟩:∃k:Nat,i=(k:Int):=⟨i.toNat,by omega⟩
    rw[decide_eq_true hi]at hb;have e1:=dL (b:=true) (dc (aW (fl:=aJ (gv 4) (aJ (gv 1) aH)) (r:=[some Y,some (nD b),some (TD pre),some (nD pre.length),some (nD k)]) (aF rfl (aF rfl aK)) hb) rfl);have e2:=Lq pre k;by_cases hk:k∈pre
    .rw[decide_eq_true hk]at e2;refine .inr ⟨Z fun k' h' _=>(show k=k' from QaJ.mp (E_ h'))▸hk,ret ?_⟩;rw[show oi (some (k:Int))=nD k from rfl,dE e1];exact eY (aT rfl rfl e2)
    .rw[decide_eq_false hk]at e2;have ld:k<b:=by omega
     have hs:pE [some Y,some (nD b),some (TD pre),some (nD pre.length),some (nD k)]=.nx [some Y,some (nD b),some (TD (pre++[k])),some (nD pre.length),some (nD k)]:=by
      refine(aU ((cp ?_).trans (e_skip _))).trans ?_
      .rw[dE e1];exact eY (aT rfl rfl e2)
      .exact aU (l9 (d:=TD pre) (k:=nD k) rfl rfl rfl (Nr hk (by omega)))
     have e0:bG (iZ (fK (bY 3) (fK (bY 4) iQ))) pE (DL.D.tup [nD pre.length,oi (some (k:Int))]::db (pre.length+1) (U.map oi)) [some Y,some (nD b),some (TD pre),x,y]=bG (iZ (fK (bY 3) (fK (bY 4) iQ))) pE (db (pre.length+1) (U.map oi)) [some Y,some (nD b),some (TD (pre++[k])),some (nD pre.length),some (nD k)]:=gD (r1:=[some Y,some (nD b),some (TD pre),some (nD pre.length),some (nD k)]) rfl hs;have el:(pre++[k]).length=pre.length+1:=by simp
     have eg:ju (pre++[k])++U=ju pre++some (k:Int)::U:=by simp[ju]
     have ih:=fw_loop b Y U (pre++[k]) (some (nD pre.length)) (some (nD k)) (by rw[el];omega) (QdI.mpr ⟨nd,by simp,fun a ha c hc z=>hk (by rw[H_.mp hc]at z;exact z▸ha)⟩) (fun z hz=>by
      rcases QaE.mp hz with z'|z'
      .exact lt z z'
      .rw[H_.mp z'];exact ld)
     rw[eg,el]at ih;rw[e0];rcases ih with⟨g1,T,x',y',e⟩|⟨g1,k',h',e⟩
     .exact .inl ⟨g1,T,x',y',e⟩
     .exact .inr ⟨g1,k',by rw[T_];omega,e⟩
   .rw[decide_eq_false hi]at hb;refine .inr ⟨Z fun k hk ld=>?_,ret ?_⟩
    .exfalso;apply hi;have:i=(k:Int):=E_ hk;omega
    .exact fZ (dL (b:=false) (dc (aW (aF rfl (aF rfl aK)) hb) rfl))
open Classical in
def Go(t:Bool){l:List (Option Int)}(b:Nat)(hl:l.length<=900):∃k,xE [wr t (l.map oi),nD b]=.ok (nD k)/\(Gd b l->k=l.length)/\(¬ Gd b l->k<l.length):=by
 have hz:jO (gv 0) [some (wr t (l.map oi)),some (nD b),some (TD []),none,none]=.ok (db 0 (l.map oi)):=qm (d:=wr t (l.map oi)) rfl (uP _ _);have hlen:lenD [wr t (l.map oi)]=some (nD l.length):=by rw[As,q_]
 rcases fw_loop b (wr t (l.map oi)) l [] none none (by simpa using hl) Qeq (fun _ z=>(nomatch z))with⟨g,T,x',y',e⟩|⟨g,k,hk,e⟩
 .refine⟨l.length,cf (n:=5) ?_,fun _=>rfl,fun h=>absurd g h⟩
  dsimp only[xC,qW]
  refine(aU (cJ (d:=TD []) rfl)).trans ?_;refine(aU ((fV hz).trans e)).trans ?_;exact aY (bV (bU (aF rfl aK) hlen))
 .refine⟨k,cf (n:=5) ?_,fun h=>absurd h g,fun _=>by simpa using hk⟩
  dsimp only[xC,qW]
  refine(aU (cJ (d:=TD []) rfl)).trans ?_;exact aY ((fV hz).trans e)
open Classical in
def AT(t:Bool){l:List (Option Int)}(b:Nat)(hl:l.length<=900):lG [wr t (l.map oi),nD b]=.ok (.bl (decide (Gd b l))):=by
 obtain⟨k,e,h1,h2⟩:=Go t b hl;have hlen:lenD [wr t (l.map oi)]=some (nD l.length):=by rw[As,q_]
 have hk:decide (k=l.length)=decide (Gd b l):=by
  by_cases g:Gd b l
  .rw[decide_eq_true g,decide_eq_true (h1 g)]
  .rw[decide_eq_false g,decide_eq_false (by have:=h2 g;omega)]
 refine cf (n:=2) ?_
 dsimp only[C3,wK]
 rw[<-hk];exact aY (bV (aT (aW (aF rfl (aF rfl aK)) e) (bU (aF rfl aK) hlen) (jf _ _)))
open Classical in
def Px(t:Bool){l:List (Option Int)}(b:Nat)(hl:l.length<=900):iH [wr t (l.map oi),nD b]=.ok (.bl (decide (l.length=b/\Gd b l))):=by
 have hlen:lenD [wr t (l.map oi)]=some (nD l.length):=by rw[As,q_]
 have te:=jf l.length b;refine cf (n:=2) ?_
 dsimp only[Ki,C0]
 refine aY (bV ?_);by_cases h:l.length=b
 .rw[decide_eq_true h]at te;rw[eV (aT (bU (aF rfl aK) hlen) rfl te)];have:decide (l.length=b/\Gd b l)=decide (Gd b l):=by by_cases g:Gd b l <;> simp[h,g]
  rw[this];exact aW (aF rfl (aF rfl aK)) (AT t b hl)
 .rw[decide_eq_false h]at te;rw[jz (aT (bU (aF rfl aK) hlen) rfl te),decide_eq_false (fun z=>h z.1)]
def GV{n:Nat}{l:List (Option Int)}:(l.length=n/\Gd n l)↔∃ks:List Nat,l=ju ks/\ks.Perm (g_ n):=by
 constructor
 .rintro⟨h,ks,e,nd,lt⟩
  refine⟨ks,e,Rg.ID nd (fun x hx=>s_.mpr (lt x hx)) ?_⟩;rw[e]at h;simp at h ⊢;omega
 .rintro⟨ks,e,p⟩
  refine⟨by rw[e];simp[p.length_eq],ks,e,p.nodup_iff.mpr Zn,fun k hk=>s_.mp (p.mem_iff.mp hk)⟩
open PySem PyProof.Rows L2 DL
structure Own(oz:List (Option Nat))(m:Nat):Prop where
 lt:∀x,some x∈oz->x<m
 inj:∀h k x,own oz h=some x->own oz k=some x->h=k
def K8(l:List Nat)(i:Nat):UO (LN l) none (some (i:Int))=some (LN (l.take i)):=by show some (D.lst (dM (l.map nD) none (some (i:Int))))=_;unfold dM;rw[HT.fP,HT.eB,q_,Qeu,Nat.sub_zero,<-Qdc];show some (D.lst _)=some (D.lst ((l.take i).map nD));rw[QcJ.mpr (by omega:min (min i l.length) l.length=min i l.length)]
def Mb{a b:List Nat}(h:a.length+b.length<=1000):addE (LN a) (LN b)=some (LN (a++b)):=by show addA (LN a) (LN b)=_;show(if (a.map nD).length+(b.map nD).length<=sizeLine then some (D.lst (a.map nD++b.map nD))else none)=_;rw[if_pos (by rw[q_,q_,J_];omega),<-Q_]
def N6(l:List Nat)(k:Nat):kL (LN l) none (some (k:Int))=some (LN (l.take k)):=by rw[<-K8];rfl
abbrev Es(l:List Nat):List Nat:=l.drop 1++l.take 1
def Sz{l:List Nat}(h1:1<=l.length)(hl:l.length<=900):mR [LN l]=.ok (LN (Es l)):=by
 refine cf (n:=1) ?_
 dsimp only[CI,wZ]
 exact aY (bV (aT (oJ (d:=LN l) rfl (oR (i:=((1:Nat):Int)) rfl) rfl (Qu h1)) (oJ (d:=LN l) rfl rfl (oR (i:=((1:Nat):Int)) rfl) (N6 l 1)) (Mb (by simp;omega))))
def Ig:∀l:List Nat,ko (l.map nD)=some (l.map fun k:Nat=>(k:Int))
|[]=>rfl
|k::l=>by show(ko (l.map nD)).map _=_;rw[Ig l];rfl
open PySem PyProof.Rows L2 DL
def lw{dl:List Nat}{i h:Nat}(e:dl[i]? = some h):dOf dl i=h:=by unfold dOf;rw[A_,e];rfl
def hZ{l:List Nat}{n:Nat}(h:l.Perm (g_ n)):l.length=n:=by rw[h.length_eq];simp
abbrev WL(tb:Bool)(w:List Nat):DL.D:=wr tb (w.map nD)
def AY{α:Type}(p:α->Bool):∀l:List α,jd (l.map fun x=>DL.D.bl (p x))=some (l.map p)
|[]=>rfl
|x::l=>by show(jd (l.map fun x=>DL.D.bl (p x))).map _=_;rw[AY p l];rfl
def KM{α:Type}(p:α->Bool)(l:List α):anyD [.lst (l.map fun x=>DL.D.bl (p x))]=some (.bl (l.any p)):=by show(jd _).map _=_;rw[AY,Z8,QaD];rfl
def nB{r:List Nat}{i:Nat}(hi:i<r.length):bP (LN r) (nD i)=some (nD (dOf r i)):=kg (tT hi)
abbrev pI(p:Int×Int):DL.D:=.tup [.int p.1,.int p.2]
abbrev rg(tb:Bool)(ps:List (Int×Int)):DL.D:=wr tb (ps.map pI)
abbrev c6(r:List Nat):List Int:=r.map fun k:Nat=>(k:Int)
def E9(a b:Int):yN (.int a) (.int b)=some (.bl (decide (a>=b))):=rfl
open PySem PyProof.Rows L2 DL
def lL:Wy->DL.D
|.ring r=>.tup [.str "ring",LN r]
|.line r x=>.tup [.str "line",LN r,nD x]
def SR(w:Wy):bP (lL w) (.int 1)=some (LN w.hands):=by cases w <;> exact gl (i:=1) rfl
def qu{i:Nat}{r:aL}{k0 k:Str}{ds:List DL.D}{b:Bool}(hr:r[i]? = some (some (.tup (.str k0::ds))))(h:(k0==k)=b):(dY (f2 (f2 (fun r=>c8 r i) (fun _=>Res.ok (DL.D.int 0)) bP) (fun _=>Res.ok (DL.D.str k)) eqD)) r=.ok b:=by refine eY (aT (aT (by show c8 r i=_;unfold c8;rw[hr]) rfl (ixA_T0 _ _)) rfl ?_);unfold eqD;rw[eqB_str,h];rfl
def HF{i:Nat}{r:aL}{w:Wy}{k:Str}{b:Bool}(hr:r[i]? = some (some (lL w)))(h:(w.kind==k)=b):(dY (f2 (f2 (fun r=>c8 r i) (fun _=>Res.ok (DL.D.int 0)) bP) (fun _=>Res.ok (DL.D.str k)) eqD)) r=.ok b:=by cases w with
|ring r=>exact qu hr h
|line r x=>exact qu hr h
section
variable{rz:List (List Nat)}{dl:List Nat}{n m:Nat}
def Sx(D:Dl rz dl n m){w:Wy}(hw:w.hands≠[])(U:∀h∈w.hands,h<n)(hl:w.hands.length<=60):rS [TN dl,lL w]=.ok (LN (w.things dl)):=by
 refine cf (n:=3) ?_
 dsimp only[Db,wP]
 cases hh:w.hands with
|nil=>exact absurd hh hw
|cons a t=>
  rw[hh]at U hl;have z:=SR w;rw[hh]at z;have e1:(cU im 2 (eR 1 [0] (bS cZ (cg (aJ (f2 (gv 1) (fun _=>Res.ok (DL.D.int 1)) bP) aH) [] mR)) (bY 0) (fun _=>Res.ok true) (f2 (gv 1) (gv 0) bP))) [some (TN dl),some (lL w),none]=.nx [some (TN dl),some (lL w),some (LN (t.map (dOf dl)++[dOf dl a]))]:=by
   have:=gq (nl:=1) (cap:=[0]) (fi:=bS cZ (cg (aJ (f2 (gv 1) (fun _=>Res.ok (DL.D.int 1)) bP) aH) [] mR)) (ft:=bY 0) (fe:=f2 (gv 1) (gv 0) bP) (r:=[some (TN dl),some (lL w),none]) (l:=t++[a]) nD (fun h=>nD (dOf dl h)) (jy (aW (aF (d:=LN (a::t)) (aT rfl rfl z) aK) (Sz (l:=a::t) (by simp) (by simp at hl;simp;omega))) rfl) (by simp at hl ⊢;omega) fun h hm=>⟨[some (nD h),some (TN dl)],rfl,aT rfl rfl (D.at (U h (by simpa[or_comm]using hm)))⟩
   refine cJ (this.trans ?_);show Res.ok (DL.D.lst _)=Res.ok (DL.D.lst ((t.map (dOf dl)++[dOf dl a]).map nD));rw[Q_,Q_,L_];rfl
  refine(aU e1).trans ?_;have Y:w.things dl=t.map (dOf dl)++[w.last dl]:=by unfold Wy.things;rw[hh];rfl
  refine(aU (r':=[some (TN dl),some (lL w),some (LN (w.things dl))]) ?_).trans ?_
  .rw[Y];cases w with
  |ring r=>have:r=a::t:=hh;subst this;exact(cp (HF (w:=.ring (a::t)) rfl rfl)).trans rfl
  |line r x=>refine(cO (HF (w:=.line r x) rfl rfl)).trans ?_;exact aU (l9 (d:=LN (t.map (dOf dl)++[dOf dl a])) (k:=.int (-1)) (v:=nD x) rfl (aT rfl rfl (gl rfl)) rfl IU)
  exact aY (bV (d:=LN (w.things dl)) rfl)
end
def kd:Option Int->Str
|none => "ring"
|some _ => "line"
def rs:Option Int->List DL.D
|none=>[]
|some x=>[.int x]
abbrev wz(tb:Bool)(hs:List Int)(o:Option Int):DL.D:=.tup (.str (kd o)::wr tb (hs.map DL.D.int)::rs o)
def Kq(tb:Bool)(hs:List Int)(o:Option Int):bP (wz tb hs o) (.int 1)=some (wr tb (hs.map DL.D.int)):=gl (i:=1) rfl
def kM(s:Str)(i:Int)(h:QdA s=true)(k:Nat):cP (k+1) (.tup [.str s,.int i]):=iG.mpr fun d hd=>by
 rcases e_.mp hd with rfl|hd
 .cases k <;> exact h
 .rcases e_.mp hd with rfl|hd
  .cases k <;> trivial
  .cases hd
def HB{x:DL.D}{ds:List DL.D}(h:cP 60 x/\cP 60 (.tup ds)):inT x (.tup ds)=some (.bl (ds.any fun y=>iL y x)):=by unfold inT;exact if_pos h
def Qm(tb:Bool)(hs:List Int)(o:Option Int):DT [wz tb hs o]=.ok (.bl true):=by
 refine cf (n:=1) ?_
 dsimp only[Kn,Dr]
 have hl:lenD [wz tb hs o]=some (.int (match o with|none=>2|some _=>3)):=by cases o <;> rfl
 refine aY (bV ?_);rw[eV (aT (bU (aF rfl aK) hl) rfl (by cases o <;> rfl))];have s2:cP 60 (.tup [.tup [.str "ring",.int 2],.tup [.str "line",.int 3]]):=iG.mpr fun d hd=>by
  rcases e_.mp hd with rfl|hd
  .exact kM _ _ (by kernel_rfl) 58
  .rcases e_.mp hd with rfl|hd
   .exact kM _ _ (by kernel_rfl) 58
   .cases hd
 refine aT (dB (aF (d:=.str (kd o)) (aT rfl rfl (ixA_T0 _ _)) (aF (bU (aF rfl aK) hl) aK)) (by simp)) (dB (aF (dB (ds:=[.str "ring",.int 2]) rfl (by simp)) (aF (dB (ds:=[.str "line",.int 3]) rfl (by simp)) aK)) (by simp)) ?_;cases o with
|none=>exact(HB ⟨kM _ _ (by kernel_rfl) 59,s2⟩).trans (by kernel_rfl)
|some x=>exact(HB ⟨kM _ _ (by kernel_rfl) 59,s2⟩).trans (by kernel_rfl)
def M7(l:List Nat)(k:Nat):gY (nD k) (TN l)=some (.bl (! decide (k∈l))):=(show gY (nD k) (TN l)=gY (nD k) (LN l)from rfl).trans (M6 l k)
def jL(rz:List (List Nat))(dl:List Nat)(p:Nat×Nat):Bool:=decide (Rg.lk (Wr rz) p.1 p.2 (dOf dl p.1))
def lY{α:Type}(p:α->Bool)(l:List α):allD [.lst (l.map fun x=>DL.D.bl (p x))]=some (.bl (l.all p)):=by show(jd _).map _=_;rw[AY,Z8,List.all_map];rfl
section
variable{rz:List (List Nat)}{dl:List Nat}{n m:Nat}
def gG(ks:List Nat):Option Nat->Wy
|none=>.ring ks
|some x=>.line ks x
def mP(ks:List Nat)(o:Option Nat):(gG ks o).hands=ks:=by cases o <;> rfl
def D5(tb:Bool)(ks:List Nat)(o:Option Nat):wz tb (c6 ks) (o.map fun x:Nat=>(x:Int))=(if tb then jt (gG ks o)else lL (gG ks o)):=by cases tb <;> cases o <;> (show DL.D.tup (_::_::_)=DL.D.tup (_::_::_);unfold c6 wr;rw[L_];rfl)
def NQ(D:Dl rz dl n m)(tb:Bool){ks:List Nat}{o:Option Nat}(ne:ks≠[])(lt:∀h∈ks,h<n)(hl:ks.length<=60):rS [TN dl,wz tb (c6 ks) (o.map fun x:Nat=>(x:Int))]=.ok (LN ((gG ks o).things dl)):=by
 rw[D5];cases tb
 .exact Sx D (by rw[mP];exact ne) (by rw[mP];exact lt) (by rw[mP];exact hl)
 .exact Ui D (by rw[mP];exact ne) (by rw[mP];exact lt) (by rw[mP];exact hl)
def RU(D:Dl rz dl n m){ks:List Nat}{o:Option Nat}(ne:ks≠[])(lt:∀h∈ks,h<n)(ho:∀x,o=some x->x<m):∀x∈(gG ks o).things dl,x<m:=by
 intro x hx;unfold Wy.things at hx;rw[mP]at hx;rcases QaE.mp hx with h|h
 .obtain⟨k,k1,rfl⟩:=V_.mp h;exact D.dlt (lt k (List.mem_of_mem_tail k1))
 .rw[H_.mp h];cases o with
 |none=>refine D.dlt (lt _ ?_);cases ks with
  |nil=>exact absurd rfl ne
  |cons a t=>exact r_
 |some y=>exact ho y rfl
def NK{ks ts:List Nat}(h1:∀h∈ks,h<n)(h2:∀x∈ts,x<m):∀p∈ks.zip ts,p.1<n/\p.2<m:=fun p hp=>by obtain⟨a,b⟩:=p;exact⟨h1 a (Qa6 hp).1,h2 b (Qa6 hp).2⟩
open Classical in
def IA(D:Dl rz dl n m)(x:Int):Kb [WD rz,TN dl,.int x]=.ok (.bl (decide (∃k:Nat,x=(k:Int)/\k<m/\k∉dl))):=by
 refine cf (n:=3) ?_
 dsimp only[Ka,Cy]
 have hb:=G6 x m;have c:=aW (fl:=aJ (gv 2) (aJ (cg (aJ (gv 0) aH) [] mL) aH)) (dds:=[]) (r:=c7 3 [WD rz,TN dl,.int x]) (aF rfl (aF (d:=nD m) (aW (aF rfl aK) D.R.things) aK)) hb;refine aY (bV ?_);by_cases h:0<=x/\x<(m:Int)
 .obtain⟨k,rfl⟩:∃k:Nat,x=(k:Int):=⟨x.toNat,by omega⟩
  rw[decide_eq_true h]at c;rw[eV c];refine(aT rfl rfl (M7 dl k)).trans ?_;congr 2;rw[<-decide_not,decide_eq_decide];exact⟨fun z=>⟨k,rfl,by omega,z⟩,fun⟨k',e,_,z⟩=>by have:k=k':=QaJ.mp e;rw[this];exact z⟩
 .rw[decide_eq_false h]at c;rw[jz c,decide_eq_false]
  rintro⟨k,rfl,z,_⟩
  exact h ⟨by omega,by omega⟩
end
open PySem PyProof.Rows L2 DL
def D6(tb:Bool)(hs:List Int):jD (wr tb (hs.map DL.D.int))=some (decide (hs≠[])):=by cases hs <;> cases tb <;> rfl
def Au(hs:List Int):(hs.map some).map oi=hs.map DL.D.int:=by rw[L_];rfl
def L3{n:Nat}{hs:List Int}(h:Gd n (hs.map some)):∃ks:List Nat,hs=c6 ks/\ks.Nodup/\∀k∈ks,k<n:=by obtain⟨ks,e,nd,lt⟩:=h;refine⟨ks,?_,nd,lt⟩;have:=congrArg (ZL fun o:Option Int=>o.getD 0) e;simpa[Qbq]using this
def F8{n:Nat}{ks:List Nat}(nd:ks.Nodup)(lt:∀k∈ks,k<n):Gd n ((c6 ks).map some):=⟨ks,by show(ZL _ (ZL _ ks))=_;rw[L_];rfl,nd,lt⟩
section
variable{rz:List (List Nat)}{dl:List Nat}{n m:Nat}{hs:List Int}
open Classical in
def sk(tb:Bool)(hl:hs.length<=60):lG [wr tb (hs.map DL.D.int),nD n]=.ok (.bl (decide (Gd n (hs.map some)))):=by have h:=AT tb (l:=hs.map some) n (by simp;omega);rw[Au]at h;exact h
abbrev UP:FQ:=(iK (dG (cW (cg (aJ (gv 2) aH) [] DT))) (iK (dG (cW (f2 (gv 2) (ci 1) bP))) (dG (cW (cg (aJ (f2 (gv 2) (ci 1) bP) (aJ (fC (aJ (gv 0) aH) lenD) aH)) [] lG)))))
open Classical in
def Ap(D:Dl rz dl n m)(tb:Bool)(hl:hs.length<=60)(o:Option Int):UP [some (WD rz),some (TN dl),some (wz tb hs o)]=.ok (! decide (hs≠[]/\Gd n (hs.map some))):=by
 have e1:=dL (dc (aW (fl:=aJ (gv 2) aH) (dds:=[]) (r:=[some (WD rz),some (TN dl),some (wz tb hs o)]) (aF rfl aK) (Qm tb hs o)) (b:=true) rfl);have w1:=aT (f:=gv 2) (f':=fun _=>Res.ok (DL.D.int 1)) (k:=bP) (r:=[some (WD rz),some (TN dl),some (wz tb hs o)]) (a:=wz tb hs o) (b:=.int 1) rfl rfl (Kq tb hs o);have e2:=dL (dc w1 (D6 tb hs));have e3:=dL (dc (aW (dds:=[]) (aF w1 (aF (f:=fC (aJ (gv 0) aH) lenD) (d:=nD n) (bU (aF rfl aK) D.R.len) aK)) (sk (n:=n) tb hl)) rfl);refine(dE e1).trans ?_;by_cases c:hs=[]
 .rw[decide_eq_false (fun z:hs≠[]=>z c)]at e2;rw[decide_eq_false (fun z:hs≠[]/\Gd n (hs.map some)=>z.1 c)];exact fZ e2
 .rw[decide_eq_true c]at e2;refine(dE e2).trans (e3.trans ?_);congr 2;rw[decide_eq_decide];exact⟨fun z=>⟨c,z⟩,fun z=>z.2⟩
open Classical in
def Gc(D:Dl rz dl n m)(tb:Bool)(hl:hs.length<=60)(o:Option Int)(h:¬ (hs≠[]/\Gd n (hs.map some))):lJ [WD rz,TN dl,wz tb hs o]=.ok (.bl false):=by
 have e:=Ap D tb hl o;rw[decide_eq_false h]at e;refine cf (n:=3) ?_
 dsimp only[xY,rD]
 exact aY ((cO e).trans (aY (bV (d:=.bl false) rfl)))
abbrev Ku(dl:List Nat)(m:Nat)(x:Int):Prop:=∃k:Nat,x=(k:Int)/\k<m/\k∉dl
open Classical in
def EB(D:Dl rz dl n m)(tb:Bool)(hl:hs.length<=60){x:Int}(h:hs≠[]/\Gd n (hs.map some))(hx:¬ Ku dl m x):lJ [WD rz,TN dl,wz tb hs (some x)]=.ok (.bl false):=by
 have e:=Ap D tb hl (some x);rw[decide_eq_true h]at e;have l:=IA D x;rw[decide_eq_false hx]at l;refine cf (n:=3) ?_
 dsimp only[xY,rD]
 refine(aU ((cp e).trans (e_skip _))).trans ?_;refine aY ((cO ?_).trans (aY (bV (d:=.bl false) rfl)));refine(zM (qu (k0 := "line") (ds:=wr tb (hs.map DL.D.int)::rs (some x)) rfl rfl)).trans ?_;exact dL (b:=false) (dc (aW (aF rfl (aF rfl (aF (d:=.int x) (aT rfl rfl (gl (i:=2) rfl)) aK))) l) rfl)
open Classical in
def Gb(D:Dl rz dl n m)(tb:Bool){ks:List Nat}(hl:ks.length<=60){o:Option Nat}(ne:ks≠[])(nd:ks.Nodup)(lt:∀h∈ks,h<n)(ho:∀x,o=some x->x<m/\x∉dl):lJ [WD rz,TN dl,wz tb (c6 ks) (o.map fun x:Nat=>(x:Int))]=.ok (.bl ((ks.zip ((gG ks o).things dl)).all (jL rz dl))):=by
 have e:=Ap D tb (hs:=c6 ks) (by simpa[c6]using hl) (o.map fun x:Nat=>(x:Int));rw[decide_eq_true ⟨by cases ks with|nil=>exact absurd rfl ne|cons a t=>simp[c6],F8 nd lt⟩]at e;have hz:=NK (n:=n) (m:=m) lt (RU D ne lt fun x hx=>(ho x hx).1);refine cf (n:=3) ?_
 dsimp only[xY,rD]
 refine(aU ((cp e).trans (e_skip _))).trans ?_;refine(aU ((cp ?_).trans (e_skip _))).trans ?_
 .cases o with
 |none=>exact Fg (qu (k0 := "ring") (ds:=[wr tb ((c6 ks).map DL.D.int)]) rfl rfl)
 |some x=>have l:=IA D (x:Int);rw[decide_eq_true (show Ku dl m (x:Int)from⟨x,rfl,ho x rfl⟩)]at l;refine(zM (qu (k0 := "line") (ds:=wr tb ((c6 ks).map DL.D.int)::[.int (x:Int)]) rfl rfl)).trans ?_;exact dL (b:=true) (dc (aW (aF rfl (aF rfl (aF (d:=.int (x:Int)) (aT rfl rfl (gl (i:=2) rfl)) aK))) l) rfl)
 have hs1:cZ (wr tb ((c6 ks).map DL.D.int))=some (ks.map nD):=by rw[uP];show some (ZL _ (ZL _ ks))=_;rw[L_];rfl
 have hzip:=OP (fa:=f2 (gv 2) (fun _=>Res.ok (DL.D.int 1)) bP) (fb:=cg (aJ (gv 1) (aJ (gv 2) aH)) [] rS) (r:=[some (WD rz),some (TN dl),some (wz tb (c6 ks) (o.map fun x:Nat=>(x:Int)))]) (aT rfl rfl (Kq _ _ _)) (aW (dds:=[]) (aF rfl (aF rfl aK)) (NQ D tb ne lt hl)) hs1 (show cZ (LN _)=some _ from rfl);rw[IF]at hzip;exact aY (bV ((bU (aF (gq (l:=ks.zip ((gG ks o).things dl)) (fun p=>DL.D.tup [nD p.1,nD p.2]) (fun p=>DL.D.bl (jL rz dl p)) hzip (by rw[List.length_zip];omega) fun p hp=>⟨[some (nD p.1),some (nD p.2),some (WD rz),some (TN dl)],rfl,aW (aF rfl (aF rfl (aF rfl (aF (aT rfl rfl (D.at (hz p hp).1)) aK)))) (IS D (hz p hp).1 (hz p hp).2 (D.dlt (hz p hp).1))⟩) aK) (lY (jL rz dl) _))))
end
open PySem PyProof.Rows L2 DL
def M9{s:FS}{r r':aL}(h:s r=.nx r'):ip s r=.nx r':=by unfold ip;rw[h]
def Ua{a:Nat->Nat}{kvs:List (Nat×Nat)}{L:List Nat}{n:Nat}(g:GI a kvs L)(h:∀x,x∈L↔x<n)(h8:n<=60):JS [KD kvs]=.ok (TN ((g_ n).map a)):=by
 have hl:=g.full h;refine cf (n:=1) ?_
 dsimp only[JQ,Cb]
 refine aY (bV (bU (aF (ku (l:=g_ n) nD (fun _=>true) (fun h=>nD (a h)) (jj (ds:=[nD n]) (aF (bU (aF rfl aK) (by rw[Q1,hl])) aK) (jh (by omega))) (by simp;omega) fun x hx=>⟨[some (nD x),some (KD kvs)],rfl,rfl,fun _=>aT rfl rfl (yX (BA g.val ((g.key x).mpr ((h x).mpr (s_.mp hx)))))⟩) aK) ?_));rw[vR,e_tupL];show some (D.tup _)=some (D.tup _);rw[L_];rfl
section
variable{rz:List (List Nat)}{n m:Nat}
def Rws.best(R:Rws rz n m){h:Nat}{T:List Nat}(hh:h<n)(hT:0<T.length)(hm:∀x∈T,x<m):wH [TN (Wr rz h),LN T]=.ok (nD (Rg.best (Wr rz h) T)):=Qj (R.one hh hT hm) (by rw[(R.row hh).length_eq];have:=R.m8;simp;omega)
def Ha(R:Rws rz n m)(d:Nat->Nat)(od:Option D):∀(o L T:List Nat)(kvs:List (Nat×Nat))(y:Option D),Rg.lP (Wr rz) d o T->GI d kvs L->(∀h∈L++o,h<n)->o.length<=T.length->(∀x∈T,x<m) ->∃z T' y',GI d z (L++o)/\bG (bY 4) (ip T7) (o.map nD) [some (WD rz),od,some (LN T),some (KD kvs),y]=.nx [some (WD rz),od,some (LN T'),some (KD z),y']
|[],L,T,kvs,y,_,g,_,_,_=>⟨kvs,T,y,by rw[Zl];exact g,ia⟩
|h::o,L,T,kvs,y,s,g,hL,hl,hT=>by
  have hh:h<n:=hL h (by simp);have hp:0<T.length:=by simp at hl;omega
  have hb:=R.best hh hp hT;have U:=R.inT hh hp hT;rw[s.1]at hb U;obtain⟨z,T',y',g',ih⟩:=Ha R d od o (L++[h]) (T.erase (d h)) (putN kvs h (d h)) (some (nD h)) s.2 (g.put h) (by simpa using hL) (by rw[ZY U];simp at hl;omega) (fun x hx=>hT x (QaK hx));refine⟨z,T',y',by simpa using g',?_⟩;rw[<-ih];have hk:=g.len (line:=g_ n) fun x hx=>s_.mpr (hL x (QaO _ hx));have Y:=R.n7;refine gD (r1:=[some (WD rz),od,some (LN T),some (KD kvs),some (nD h)]) rfl ?_;refine M9 ?_;refine(aU (l9 (d:=KD kvs) (k:=nD h) (v:=nD (d h)) rfl (aW (aF (aT rfl rfl (gl (AL (by rw[R.rl];exact hh)))) (aF rfl aK)) hb) rfl (Np (by simp at hk;omega)))).trans ?_;exact aU (ma (d:=LN T) (ds:=[nD (d h)]) rfl rfl (aF (aT rfl rfl (yX (BA (g.put h).val (((g.put h).key h).mpr (by simp))))) aK) (Gj U))
def Hz(R:Rws rz n m)(od:Option D):∀(o T:List Nat)(g:List (Option Nat))(y:Option D),o.Nodup->(∀h∈o,h<n)->o.length<=T.length->(∀x∈T,x<m)->g.length=n ->∃(g':List (Option Nat))(T':List Nat)(y':Option D),g'.length=n/\(∀h∈o,g'[h]? = some (some (Rg.fq (Wr rz) o T h)))/\(∀h,h∉o->g'[h]? = g[h]?) /\bG (bY 4) Uz (o.map nD) [some (WD rz),od,some (LN T),some (.lst (g.map oD)),y]=.nx [some (WD rz),od,some (LN T'),some (.lst (g'.map oD)),y']
|[],T,g,y,_,_,_,_,hg=>⟨g,T,y,hg,fun _ h=>(nomatch h),fun _ _=>rfl,ia⟩
|h::o,T,g,y,hn,hh,hl,hT,hg=>by
  have h0:=hh h r_;have hn':=Zd.mp hn;have hp:0<T.length:=by simp at hl;omega
  have U:=R.inT h0 hp hT;obtain⟨g',T',y',i1,i2,i3,i4⟩:=Hz R od o (T.erase (Rg.best (Wr rz h) T)) (g.set h (some (Rg.best (Wr rz h) T))) (some (nD h)) hn'.2 (fun k hk=>hh k (m_ _ hk)) (by rw[ZY U];simp at hl;omega) (fun x hx=>hT x (QaK hx)) (by rw[ZO];exact hg);refine⟨g',T',y',i1,fun k hk=>?_,fun k hk=>?_,?_⟩
  .rcases e_.mp hk with e|Y
   .subst e;rw[i3 k hn'.1,j_ (by omega)];simp[Rg.fq]
   .have hne:k≠h:=fun e=>by subst e;exact hn'.1 Y
    rw[i2 k Y];simp[Rg.fq,hne]
  .rw[i3 k fun z=>hk (m_ _ z),b_]
   rintro rfl
   exact hk r_
  .rw[<-i4];refine gD (r1:=[some (WD rz),od,some (LN T),some (.lst (g.map oD)),some (nD h)]) rfl ?_;have es:(g.map oD).set h (nD (Rg.best (Wr rz h) T))=(g.set h (some (Rg.best (Wr rz h) T))).map oD:=by rw[QdJ];rfl
   refine(aU (l9 (d:=.lst (g.map oD)) (k:=nD h) (v:=nD (Rg.best (Wr rz h) T)) rfl (aW (aF (aT rfl rfl (gl (AL (by rw[R.rl];exact h0)))) (aF rfl aK)) (R.lbest h0 hp hT)) rfl (AD (by rw[q_];omega)))).trans ?_;rw[es];refine aU (ma (d:=LN T) (ds:=[nD (Rg.best (Wr rz h) T)]) rfl rfl (aF (aT rfl rfl (kg ?_)) aK) (Gj U));rw[x_,j_ (by omega)];rfl
def yF(R:Rws rz n m)(tb:Bool){o:List Nat}(hp:o.Perm (g_ n)):lK [WD rz,WL tb o]=.ok (TN ((g_ n).map (Rg.fq (Wr rz) o (g_ m)))):=by
 have Z:=R.n7;have ld:=R.m8;have Y:=R.nm;have hlen:o.length=n:=by rw[hp.length_eq];simp
 obtain⟨r0,U,z⟩:=R.ix0;obtain⟨g',T',y',i1,i2,i3,i4⟩:=Hz R (some (WL tb o)) o (g_ m) (o.map fun _=>none) none (hp.nodup_iff.mpr Zn) (fun h hh=>s_.mp (hp.mem_iff.mp hh)) (by simp;omega) (fun x hx=>s_.mp hx) (by simp;exact hlen);have hg:g'=(g_ n).map fun h=>some (Rg.fq (Wr rz) o (g_ m) h):=by
  refine Qbp fun h=>?_;by_cases hh:h<n
  .rw[i2 h (hp.mem_iff.mpr (s_.mpr hh)),x_,Zx hh];rfl
  .rw[ZS (by omega),ZS (by simp;omega)]
 refine cf (n:=5) ?_
 dsimp only[Kj,DN]
 refine(aU (cJ (bU (aF (d:=nD m) (bU (aF (aT rfl rfl U) aK) z) aK) (qw (by omega))))).trans ?_;refine(aU (cJ (ku (l:=o) nD (fun _=>true) (fun _=>.non) (jy rfl (uP tb _)) (by omega) fun h hh=>⟨[some (nD h)],rfl,rfl,fun _=>rfl⟩))).trans ?_;rw[vR];have em:o.map (fun _=>D.non)=(o.map fun _=>(none:Option Nat)).map oD:=by rw[L_];rfl
 rw[em];refine(aU ((fV (ds:=o.map nD) (jy rfl (uP tb _))).trans i4)).trans ?_;refine aY (bV (bU (aF rfl aK) ?_));rw[e_tupL,hg,L_];show some (D.tup _)=some (D.tup _);rw[L_];rfl
end
def uR{s1 s2:FS}{r r':aL}{x:D}(h:s1 r=.exc x r'):seqF s1 s2 r=.exc x r':=by unfold seqF;rw[h]
def Ie{B:FS}{n:Nat}{ds:List D}{x:D}{r':aL}(h:B (c7 n ds)=.exc x r'):dU false (B (c7 n ds))=.exc x:=by rw[h];rfl
def N9{m:List Md}{nm f:Str}{fl:aL->Res (List D)}{r:aL}{i:Int}(h:fl r=.ok [.int i])(hi:i.natAbs.log2<64):zT m nm f fl r=.exc (xD nm [(f,.int i)]) (forget m r):=by unfold zT;rw[h,onE_ok];show(if i.natAbs.log2<64 then _ else _)=_;rw[if_pos hi]
def RJ{k:Nat}(h:k<=60):((k:Nat):Int).natAbs.log2<64:=by rw[Int.natAbs_natCast];have:=Nat.log2_le_self k;omega
def vI{fl:aL->Res (List D)}{dds zs:List D}{F:List D->Res D}{r:aL}{d:Res D}(h1:fl r=.ok zs)(h2:F (zs++dds)=d):je fl dds F r=d:=by unfold je;rw[h1,bind_ok,h2]
abbrev WI(tb:Bool)(hs:List Int):D:=wr tb (hs.map D.int)
def uN(tb:Bool)(ks:List Nat):WI tb (c6 ks)=WL tb ks:=by show wr tb (ZL _ (ZL _ ks))=_;rw[L_];rfl
def Fx(tb:Bool)(ds:List D):sU (wr tb ds) .non=some (.bl false):=by cases tb <;> rfl
def Oj(tb:Bool)(ds:List D):ki [wr tb ds]=some (.lst ds):=by cases tb <;> rfl
section
variable{rz:List (List Nat)}{dl:List Nat}{n m:Nat}{hs:List Int}
open Classical in
def k9(tb:Bool)(hl:hs.length<=60):iH [WI tb hs,nD n]=.ok (.bl (decide ((hs.map some).length=n/\Gd n (hs.map some)))):=by have h:=Px tb (l:=hs.map some) n (by simp;omega);rw[Au]at h;exact h
abbrev Og(n:Nat)(hs:List Int):Prop:=∃o:List Nat,hs=c6 o/\o.Perm (g_ n)
def uH:((hs.map some).length=n/\Gd n (hs.map some))↔Og n hs:=by
 rw[GV];constructor
 .rintro⟨ks,e,p⟩
  refine⟨ks,?_,p⟩;have:=congrArg (ZL fun o:Option Int=>o.getD 0) e;simpa[Qbq]using this
 .rintro⟨o,rfl,p⟩
  exact⟨o,by show(ZL _ (ZL _ o))=_;rw[L_];rfl,p⟩
open Classical in
def Tf(R:Rws rz n m)(tb:Bool)(hl:hs.length<=60)(hb:¬ Og n hs):∃x,xM [WD rz,WI tb hs]=.exc (xD "NoOrder" [("at",.int x)]):=by
 have h:=k9 (n:=n) tb hl;rw[decide_eq_false (fun z=>hb (uH.mp z))]at h;obtain⟨k,f1,f2,f3⟩:=Go tb (l:=hs.map some) n (by simp;omega);rw[Au]at f1;have hk:k<=60:=by
  by_cases g:Gd n (hs.map some)
  .rw[f2 g];simp;exact hl
  .have:=f3 g;simp at this;omega
 refine⟨(k:Int),Ie (B:=wS) (n:=2) (r':=forget cL [some (WD rz),some (WI tb hs)]) ?_⟩
 dsimp only[wS,wN]
 refine(aU (r':=[some (WD rz),some (WI tb hs)]) ((cp (eY (aT rfl rfl (Fx tb _)))).trans (e_skip _))).trans ?_;exact uR ((cO (dL (b:=false) (dc (aW (aF rfl (aF (d:=nD n) (bU (aF rfl aK) R.len) aK)) h) rfl))).trans (uR (N9 (aF (aW (aF rfl (aF (d:=nD n) (bU (aF rfl aK) R.len) aK)) f1) aK) (RJ hk))))
open Classical in
def Te(R:Rws rz n m)(tb:Bool){o:List Nat}(hp:o.Perm (g_ n)):xM [WD rz,WL tb o]=.ok (LN o):=by
 have hl:o.length<=60:=by have:=R.n7;rw[hp.length_eq];simp;omega
 have h:=k9 (n:=n) (hs:=c6 o) tb (by simpa[c6]using hl);rw[decide_eq_true (uH.mpr ⟨o,rfl,hp⟩),uN]at h;refine cf (n:=2) ?_
 dsimp only[wS,wN]
 refine(aU (r':=[some (WD rz),some (WL tb o)]) ((cp (eY (aT rfl rfl (Fx tb _)))).trans (e_skip _))).trans ?_;refine(aU ((cp (dL (b:=true) (dc (aW (aF rfl (aF (d:=nD n) (bU (aF rfl aK) R.len) aK)) h) rfl))).trans (e_skip _))).trans ?_;exact aY (bV (bU (aF rfl aK) (Oj tb _)))
def Ql(R:Rws rz n m)(tb:Bool)(hl:hs.length<=60)(hb:¬ Og n hs):∃x,mT [WD rz,WI tb hs]=.exc (xD "NoOrder" [("at",.int x)]):=by
 have z:=R.m8;obtain⟨x,hx⟩:=Tf R tb hl hb;refine⟨x,Ie (B:=wR) (n:=5) (r':=forget kS [some (WD rz),some (WI tb hs),some (LN (g_ m)),some (KD []),none]) ?_⟩
 dsimp only[wR,wL]
 refine(aU (cJ (bU (aF (aW (aF rfl aK) R.things) aK) (qw (by omega))))).trans ?_;refine(aU (r':=[some (WD rz),some (WI tb hs),some (LN (g_ m)),some (KD []),none]) rfl).trans ?_;refine uR ?_;unfold At bS;rw[vI (fl:=aJ (gv 0) (aJ (gv 1) aH)) (dds:=[]) (r:=[some (WD rz),some (WI tb hs),some (LN (g_ m)),some (KD []),none]) (aF rfl (aF rfl aK)) hx];rfl
def Qk(R:Rws rz n m)(tb:Bool){o:List Nat}{d:Nat->Nat}(hp:o.Perm (g_ n))(s:Rg.lP (Wr rz) d o (g_ m)):mT [WD rz,WL tb o]=.ok (TN ((g_ n).map d)):=by
 have Z:=R.n7;have ld:=R.m8;have Y:=R.nm;have U:∀h∈o,h<n:=fun h hh=>s_.mp (hp.mem_iff.mp hh);have hlen:o.length=n:=by rw[hp.length_eq];simp
 obtain⟨z,T',y',g,hl⟩:=Ha R d (some (WL tb o)) o [] (g_ m) [] none s (GI.nil d) (by simpa using U) (by simp;omega) (fun x hx=>s_.mp hx);refine cf (n:=5) ?_
 dsimp only[wR,wL]
 refine(aU (cJ (bU (aF (aW (aF rfl aK) R.things) aK) (qw (by omega))))).trans ?_;refine(aU (r':=[some (WD rz),some (WL tb o),some (LN (g_ m)),some (KD []),none]) rfl).trans ?_;refine(aU (r':=[some (WD rz),some (WL tb o),some (LN T'),some (KD z),y']) ?_).trans ?_
 .unfold At;rw[jy (f:=je (aJ (gv 0) (aJ (gv 1) aH)) [] xM) (r:=[some (WD rz),some (WL tb o),some (LN (g_ m)),some (KD []),none]) (vI (aF rfl (aF rfl aK)) (Te R tb hp)) rfl,onE_ok];exact hl
 exact aY (bV (aW (aF rfl aK) (Ua g (fun x=>by rw[Qa7,hp.mem_iff];exact List.mem_range) (by omega))))
open Classical in
def AR(D:Dl rz dl n m):kA [WD rz,TN dl]=.ok (.bl true):=by
 have h7:=D.R.n7;have hdn:=D.dn;have h:=AT true (l:=ju dl) m (by simp;omega);rw[decide_eq_true (show Gd m (ju dl)from⟨dl,rfl,D.nd,D.lt⟩)]at h;have e:(ju dl).map oi=dl.map nD:=by rw[L_];rfl
 rw[e]at h;refine cf (n:=2) ?_
 dsimp only[C4,wM]
 refine aY (bV ?_);rw[eV (aT (bU (aF rfl aK) (by rw[mH,hdn])) (bU (aF rfl aK) D.R.len) (P6 n))];exact aW (aF rfl (aF (d:=nD m) (aW (aF rfl aK) D.R.things) aK)) h
abbrev dealt(rz:List (List Nat))(n m:Nat)(o:List Nat):List Nat:=(g_ n).map (Rg.fq (Wr rz) o (g_ m))
abbrev OO(tb:Bool)(hs:List Int):D:=iD "Ordered" [("order",WI tb hs)]
def sV{d:D}:eJ jB "order" (iD "Ordered" [("order",d)])=some d:=rfl
def Rz(D:Dl rz dl n m)(tb:Bool)(hl:hs.length<=60)(hb:¬ Og n hs):rZ [OO tb hs,WD rz,TN dl]=.ok (.bl false):=by
 obtain⟨x,hx⟩:=Ql D.R tb hl hb;refine cf (n:=3) ?_
 dsimp only[xX,rC]
 refine aY ?_;have z:(seqF (retF dC (fQ (cg (aJ (gv 1) (aJ (gv 2) aH)) [] kA) (f2 (je (aJ (gv 1) (aJ (f1 (gv 0) (eJ jB "order")) aH)) [] mT) (gv 2) eqD))) cG) [some (OO tb hs),some (WD rz),some (TN dl)]=.exc (xD "NoOrder" [("at",.int x)]) (forget dC [some (OO tb hs),some (WD rz),some (TN dl)]):=by refine uR ?_;unfold retF;rw[eV (aW (aF rfl (aF rfl aK)) (AR D))];unfold f2;rw[vI (aF rfl (aF (fJ rfl sV) aK)) hx];rfl
 unfold iU;show(match (seqF (retF dC (fQ (cg (aJ (gv 1) (aJ (gv 2) aH)) [] kA) (f2 (je (aJ (gv 1) (aJ (f1 (gv 0) (eJ jB "order")) aH)) [] mT) (gv 2) eqD))) cG) [some (OO tb hs),some (WD rz),some (TN dl)]with
  |.nx r'=>_
  |.rt d=>_
  |.exc x r'=>_
  |_=>_)=_
 rw[z];rfl
def Ry(D:Dl rz dl n m)(tb:Bool){o:List Nat}(hp:o.Perm (g_ n)):rZ [OO tb (c6 o),WD rz,TN dl]=.ok (.bl (decide (dealt rz n m o=dl))):=by
 have h:=Qk D.R tb hp (Rg.tz o (g_ m) (hp.nodup_iff.mpr Zn));refine cf (n:=3) ?_
 dsimp only[xX,rC]
 refine aY ?_;have z:(seqF (retF dC (fQ (cg (aJ (gv 1) (aJ (gv 2) aH)) [] kA) (f2 (je (aJ (gv 1) (aJ (f1 (gv 0) (eJ jB "order")) aH)) [] mT) (gv 2) eqD))) cG) [some (OO tb (c6 o)),some (WD rz),some (TN dl)]=.rt (.bl (decide (dealt rz n m o=dl))):=by refine aY (bV ?_);rw[eV (aW (aF rfl (aF rfl aK)) (AR D))];exact aT (vI (aF rfl (aF (d:=WL tb o) (by rw[<-uN];exact fJ rfl sV) aK)) h) rfl (LV _ _)
 unfold iU;show(match (seqF (retF dC (fQ (cg (aJ (gv 1) (aJ (gv 2) aH)) [] kA) (f2 (je (aJ (gv 1) (aJ (f1 (gv 0) (eJ jB "order")) aH)) [] mT) (gv 2) eqD))) cG) [some (OO tb (c6 o)),some (WD rz),some (TN dl)]with
  |.nx r'=>_
  |.rt d=>_
  |.exc x r'=>_
  |_=>_)=_
 rw[z]
end
open PySem PyProof.Rows L2 DL
def Cp:Nat->D->Prop
|_,.non=>True
|_,.int _=>True
|_,.str _=>True
|k+1,.tup ds=>ds.length<=1000/\∀d∈ds,Cp k d
|k+1,.lst ds=>ds.length<=1000/\∀d∈ds,Cp k d
|_,_=>False
def F2(k:Nat)(ds:List D):jn (k+1) ds=dU false (mG (jn k) (c7 1 ds)):=rfl
def lF:∀(k:Nat)(d:D),Cp k d->jn (k+1) [d]=.ok d:=by
 intro k
 induction k with
|zero=>intro d h;cases d with
 |non=>rfl
 |int i=>rfl
 |str s=>rfl
 |_=>exact h.elim
|succ k ih=>intro d h;cases d with
 |non=>rfl
 |int i=>rfl
 |str s=>rfl
 |tup ds=>
   obtain⟨h1,h2⟩:ds.length<=1000/\∀d∈ds,Cp k d:=h;rw[F2];refine uK (B:=mG (jn (k+1))) (n:=1) ?_;unfold mG;refine(aU ((cp (dc (fJ (a:=.tup ds) (d:=.bl false) rfl rfl) rfl)).trans (e_skip _))).trans ?_;refine aY ((cO (dc (fJ (a:=.tup ds) (d:=.bl true) rfl rfl) rfl)).trans (aY (bV (bU (aF (d:=.lst ds) ?_ aK) (e_tupL _)))));have:=gq (nl:=1) (cap:=[]) (fi:=bS cZ (gv 0)) (ft:=bY 0) (fe:=cg (aJ (gv 0) aH) [] (jn (k+1))) (r:=c7 1 [.tup ds]) (l:=ds) (fun d=>d) (fun d=>d) (by rw[QcE];rfl) h1 fun d hd=>⟨[some d],rfl,aW (aF rfl aK) (ih d (h2 d hd))⟩
   rw[QcE]at this;exact this
 |lst ds=>
   obtain⟨h1,h2⟩:ds.length<=1000/\∀d∈ds,Cp k d:=h;rw[F2];refine uK (B:=mG (jn (k+1))) (n:=1) ?_;unfold mG;refine aY ((cO (dc (fJ (a:=.lst ds) (d:=.bl true) rfl rfl) rfl)).trans (aY (bV ?_)));have:=gq (nl:=1) (cap:=[]) (fi:=bS cZ (gv 0)) (ft:=bY 0) (fe:=cg (aJ (gv 0) aH) [] (jn (k+1))) (r:=c7 1 [.lst ds]) (l:=ds) (fun d=>d) (fun d=>d) (by rw[QcE];rfl) h1 fun d hd=>⟨[some d],rfl,aW (aF rfl aK) (ih d (h2 d hd))⟩
   rw[QcE]at this;exact this
 |_=>exact h.elim
def LL{k:Nat}(tb:Bool){ds:List D}(h1:ds.length<=1000)(h2:∀d∈ds,Cp k d):Cp (k+1) (wr tb ds):=by cases tb <;> exact⟨h1,h2⟩
def eU(k:Nat)(i:Int):Cp k (.int i):=by cases k <;> trivial
def Mj(k:Nat)(s:Str):Cp k (.str s):=by cases k <;> trivial
def LJ(k:Nat)(tb:Bool){hs:List Int}(h:hs.length<=1000):Cp (k+1) (WI tb hs):=LL tb (by simpa using h) fun d hd=>by obtain⟨x,_,rfl⟩:=V_.mp hd;exact eU k x
def tR(k:Nat)(tb:Bool){hs:List Int}{o:Option Int}(h:hs.length<=1000):Cp (k+2) (wz tb hs o):=by
 refine⟨by cases o <;> simp[rs],fun d hd=>?_⟩;rcases e_.mp hd with rfl|hd
 .exact Mj _ _
 .rcases e_.mp hd with rfl|hd
  .exact LJ k tb h
  .cases o with
  |none=>cases hd
  |some x=>
    rcases e_.mp hd with rfl|hd
    .exact eU _ _
    .cases hd
def AN{a b:D}(h1:Cp 5 a)(h2:Cp 5 b):j5 [a,b]=.ok [("owns",a),("ring",b)]:=by unfold j5 BC d6;rw[aW (aF rfl aK) (lF 5 a h1)];have e:=aW (fl:=aJ (gv 2) aH) (dds:=[]) (F:=gV) (r:=none::(ZL some [a,b]++d_ (BE.length-([a,b].length+1)) none)) (aF rfl aK) (lF 5 b h2);simp only[e];rfl
def wB{a:D}(h1:Cp 5 a):jq [a]=.ok [("order",a)]:=by unfold jq C7 d6;rw[aW (aF rfl aK) (lF 5 a h1)];rfl
def vZ{a:D}(h1:Cp 5 a):lH [a]=.ok [("way",a)]:=by unfold lH C5 d6;rw[aW (aF rfl aK) (lF 5 a h1)];rfl
def fN{nm:Str}{fl:aL->Res (List D)}{F:jV}{r:aL}{ds:List D}{fd:List (Str×D)}(h1:fl r=.ok ds)(h2:F ds=.ok fd):dO nm fl [] F r=.ok (iD nm fd):=by unfold dO;rw[h1,bind_ok,Zl,h2]
abbrev BO(tb:Bool)(hs:List Int)(o:Option Int):D:=iD "Betters" [("way",wz tb hs o)]
def EM{d:D}:eJ nW "way" (iD "Betters" [("way",d)])=some d:=rfl
section
variable{rz:List (List Nat)}{dl:List Nat}{n m:Nat}{hs:List Int}
def Sa(D:Dl rz dl n m){o:Option Int}{b:Bool}{tb:Bool}(h:lJ [WD rz,TN dl,wz tb hs o]=.ok (.bl b)):xZ [BO tb hs o,WD rz,TN dl]=.ok (.bl b):=by
 refine cf (n:=3) ?_
 dsimp only[Dy,xJ]
 refine aY (bV ?_);rw[eV (aW (aF rfl (aF rfl aK)) (AR D))];exact aW (aF rfl (aF rfl (aF (fJ rfl EM) aK))) h
end
end
abbrev fb(b:Bool):D:=.tup [.int (if b then 1 else 0),.int 1]
def MQ(a b:Bool)(h:(a&&b)=false):Ak [fb a,fb b]=.ok (fb (a || b)):=by
 cases a <;> cases b
 .kernel_rfl
 .kernel_rfl
 .kernel_rfl
 .cases h
def HJ(b:Bool):wI [fb b]=.ok (.bl true):=by cases b <;> kernel_rfl
def Oi(b:Bool):ls [fb b,.tup [.int 0,.int 1]]=.ok (.bl false):=by cases b <;> kernel_rfl
def Hu(b:Bool):ls [.tup [.int 0,.int 1],fb b]=.ok (.bl b):=by cases b <;> kernel_rfl
def IM(d0:D):∀(l:List Bool)(a:Bool)(y:Option D),(l.filter id).length+(if a then 1 else 0)<=1->∃y',bG (bY 2) Rf (l.map fb) [some d0,some (fb a),y]=.nx [some d0,some (fb (a || l.any id)),y']
|[],a,y,_=>⟨y,by rw[List.any_nil,QeF];exact ia⟩
|b::l,a,y,h=>by
  have z:(a&&b)=false:=by cases a <;> cases b <;> simp at h ⊢
  obtain⟨y',ih⟩:=IM d0 l (a || b) (some (fb b)) (by cases a <;> cases b <;> simp at h ⊢ <;> omega);refine⟨y',?_⟩;rw[Qat,<-Bool.or_assoc];exact(gD (r1:=[some d0,some (fb a),some (fb b)]) rfl (aU (cJ (aW (aF rfl (aF rfl aK)) (MQ a b z))))).trans ih
def vT{d0:D}{l:List Bool}(hs:cZ d0=some (l.map fb))(h:(l.filter id).length<=1):qo [d0]=.ok (fb (l.any id)):=by
 obtain⟨y',e⟩:=IM d0 l false none (by simpa using h);refine cf (n:=3) ?_
 dsimp only[He,Ai]
 refine(aU (cJ (d:=fb false) rfl)).trans ?_;refine(aU ((fV (jy rfl hs)).trans e)).trans ?_;exact aY (bV (d:=fb (false || l.any id)) rfl)
abbrev iJ(n t:Nat):List Bool:=(g_ n).map fun j=>decide (t=j)
abbrev bN(n t:Nat):D:=.tup ((iJ n t).map fb)
abbrev cE(dl:List Nat)(n:Nat):D:=.tup (dl.map (bN n))
def zC(t:Nat):∀n,((iJ n t).filter id).length=if t<n then 1 else 0
|0=>rfl
|n+1=>by
  have ih:=zC t n;show((ZL _ (g_ (n+1))).filter id).length=_;rw[QbN,Q_,List.filter_append,Y3];show((iJ n t).filter id).length+_=_;rw[ih];by_cases h:t=n
  .subst h;rw[if_neg (Zw _),if_pos (ZT _)];simp
  .by_cases h2:t<n
   .rw[if_pos h2,if_pos (by omega)];simp[h]
   .rw[if_neg h2,if_neg (by omega)];simp[h]
def KN{t n:Nat}(h:t<n):(iJ n t).any id=true:=by rw[QaD,ZU];exact⟨t,s_.mpr h,by simp⟩
def E3(b:Bool):g6 (fb b) (fb b)=some true:=by
 have sh:cP 60 (fb b):=iG.mpr fun d hd=>by simp only[e_,p_,or_false]at hd;rcases hd with rfl|rfl <;> trivial
 rw[oW rfl sh sh];unfold iL;simp only[bI,zbP,ZF,Zh];simp
def LQ(b:Bool):eqD (fb b) (fb b)=some (.bl true):=by unfold eqD;rw[E3];rfl
def Lu(b:Bool):neD (fb b) (fb b)=some (.bl false):=by unfold neD;rw[E3];rfl
def NP{n t:Nat}(h:t<n)(h9:n<=60):yE [bN n t,nD n]=.ok (.bl true):=by
 have hl:((iJ n t).map fb).length=n:=by simp
 have hlen:lenD [bN n t]=some (nD n):=by show some (nD ((iJ n t).map fb).length)=_;rw[hl]
 refine cf (n:=2) ?_
 dsimp only[D3,xQ]
 refine(aU ((cp ?_).trans (e_skip _))).trans ?_
 .refine(dE (dL (b:=true) (dc (d:=.bl true) (fJ (a:=bN n t) rfl rfl) rfl))).trans ?_;have e:=uA n n;rw[decide_eq_true rfl]at e;refine(dE (eY (aT (bU (aF rfl aK) hlen) rfl e))).trans ?_;have c:=gq (nl:=1) (cap:=[]) (fi:=bS cZ (gv 0)) (ft:=bY 0) (fe:=cg (aJ (gv 0) aH) [] wI) (r:=c7 2 [bN n t,nD n]) (l:=iJ n t) fb (fun _=>.bl true) rfl (by simp;omega) fun b _=>⟨[some (fb b)],rfl,aW (aF rfl aK) (HJ b)⟩
  refine dL (b:=true) (dc (bU (aF c aK) (lY (fun _=>true) (iJ n t))) ?_);rw[Ze.mpr fun _ _=>rfl];rfl
 refine aY (bV ?_);have c:=gq (nl:=1) (cap:=[]) (fi:=bS cZ (gv 0)) (ft:=bY 0) (fe:=cg (aJ (gv 0) (aJ (fun _=>Res.ok (D.tup [D.int 0,D.int 1])) aH)) [] ls) (r:=[some (bN n t),some (nD n)]) (l:=iJ n t) fb (fun _=>.bl false) rfl (by simp;omega) fun b _=>⟨[some (fb b)],rfl,aW (aF rfl (aF rfl aK)) (Oi b)⟩
 have ca:=bU (k:=anyD) (aF c aK) (KM (fun _=>false) (iJ n t));have U:(iJ n t).any (fun _=>false)=false:=by rw[Bool.eq_false_iff];intro z;obtain⟨_,_,z⟩:=List.any_eq_true.mp z;cases z
 rw[U]at ca;have hn:mZ (fC (aJ (eR 1 [] (bS cZ (gv 0)) (bY 0) (fun _=>Res.ok true) (cg (aJ (gv 0) (aJ (fun _=>Res.ok (D.tup [D.int 0,D.int 1])) aH)) [] ls)) aH) anyD) [some (bN n t),some (nD n)]=.ok (.bl true):=by unfold mZ;rw[ca];rfl
 refine(eV hn).trans ?_;have ht:=vT (d0:=bN n t) (l:=iJ n t) rfl (by rw[zC];split <;> omega);rw[KN h]at ht;exact aT (aW (aF rfl aK) ht) rfl (LQ true)
def NO(x n:Nat):yE [nD x,nD n]=.ok (.bl false):=by
 refine cf (n:=2) ?_
 dsimp only[D3,xQ]
 exact aY ((cO (fZ (dL (b:=false) (dc (d:=.bl false) (fJ (a:=nD x) rfl rfl) rfl)))).trans (aY (bV rfl)))
variable{rz:List (List Nat)}{dl:List Nat}{n m:Nat}
def jZ(hl:dl.length=n):lenD [cE dl n]=some (nD n):=by show some (nD (dl.map (bN n)).length)=_;rw[q_,hl]
def HL(hl:dl.length=n)(h9:n<=60):∀(l:List Nat)(i:Nat)(y1 y2 y3:Option D),(∀t∈l,t<n) ->∃z U,bG (iZ (fK (bY 1) (fK (bY 2) iQ))) Ue (db i (l.map (bN n))) [some (cE dl n),y1,y2]=.nx [some (cE dl n),z,U]
|[],i,y1,y2,_,_=>⟨y1,y2,ia⟩
|t::l,i,y1,y2,y3,h=>by obtain⟨z,U,ih⟩:=HL hl h9 l (i+1) (some (nD i)) (some (bN n t)) none fun t ht=>h t (m_ _ ht);refine⟨z,U,(gD (d:=.tup [.int (i:Int),bN n t]) (r1:=[some (cE dl n),some (nD i),some (bN n t)]) rfl ?_).trans ih⟩;exact aU ((cp (dL (b:=true) (dc (aW (aF rfl (aF (bU (aF rfl aK) (jZ hl)) aK)) (NP (h t r_) h9)) rfl))).trans (e_skip _))
def OH{j:Nat}(hp:dl.Perm (g_ n))(hj:j<n):((dl.map fun t=>decide (t=j)).filter id).length<=1/\(dl.map fun t=>decide (t=j)).any id=true:=by
 have p:(dl.map fun t=>decide (t=j)).Perm (iJ n j):=by refine(hp.map _).trans (List.Perm.of_eq ?_);exact QaY fun t _=>by simp[eq_comm]
 refine⟨?_,?_⟩
 .rw[(p.filter id).length_eq,zC];split <;> omega
 .rw[ZU];refine⟨true,?_,rfl⟩;rw[V_];exact⟨j,hp.mem_iff.mpr (s_.mpr hj),by simp⟩
def HK(hp:dl.Perm (g_ n))(h9:n<=60):∀(l:List Nat)(y1 y2:Option D),(∀j∈l,j<n) ->∃z,bG (bY 1) Uf (l.map nD) [some (cE dl n),y1,y2]=.nx [some (cE dl n),z,y2]
|[],y1,y2,_=>⟨y1,ia⟩
|j::l,y1,y2,h=>by
  obtain⟨z,ih⟩:=HK hp h9 l (some (nD j)) y2 fun t ht=>h t (m_ _ ht);refine⟨z,(gD (r1:=[some (cE dl n),some (nD j),y2]) rfl ?_).trans ih⟩;have hj:=h j r_;have hl:=hZ hp;have c:=gq (nl:=1) (cap:=[1]) (fi:=bS cZ (gv 0)) (ft:=bY 0) (fe:=f2 (gv 0) (gv 1) bP) (r:=[some (cE dl n),some (nD j),y2]) (l:=dl) (bN n) (fun t=>fb (decide (t=j))) rfl (by omega) fun t _=>⟨[some (bN n t),some (nD j)],rfl,aT rfl rfl (gl (by rw[x_,x_,Zx hj];rfl))⟩
  obtain⟨c1,c2⟩:=OH hp hj;have ht:=vT (d0:=.lst (dl.map fun t=>fb (decide (t=j)))) (l:=dl.map fun t=>decide (t=j)) (by rw[L_];rfl) c1;rw[c2]at ht;exact aU ((cp (eY (aT (aW (aF c aK) ht) rfl (Lu true)))).trans (e_skip _))
def Rs(hp:dl.Perm (g_ n))(h9:n<=60):Dd [cE dl n]=.ok .non:=by
 have hl:=hZ hp;obtain⟨y1,y2,e1⟩:=HL hl h9 dl 0 none none none fun t ht=>s_.mp (hp.mem_iff.mp ht);obtain⟨y3,e2⟩:=HK hp h9 (g_ n) y1 y2 fun j hj=>s_.mp hj;refine cf (n:=3) ?_
 dsimp only[Dc,wQ]
 refine(aU ((fV (qm (d:=cE dl n) rfl rfl)).trans e1)).trans ?_;refine(aU ((fV (jj (aF (bU (aF rfl aK) (jZ hl)) aK) (jh (by omega)))).trans e2)).trans ?_;exact aY (bV rfl)
def Pf(hl:dl.length=n)(h1:1<=n):∃d:D,d≠.non/\(∃ds,d=.tup ds)/\Dd [TN dl]=.ok d:=by cases dl with
|nil=>simp at hl;omega
|cons x l=>
  refine⟨.tup [.str "row",.int 0],(by intro z;cases z),⟨_,rfl⟩,cf (n:=3) ?_⟩
  dsimp only[Dc,wQ]
  refine aY ((fV (qm (d:=TN (x::l)) rfl rfl)).trans ?_);refine oq (d:=.tup [.int 0,nD x]) (r1:=[some (TN (x::l)),some (.int 0),some (nD x)]) rfl ?_;refine aY ((cO (dL (b:=false) (dc (aW (aF rfl (aF (d:=nD n) (bU (aF rfl aK) ?_) aK)) (NO x n)) rfl))).trans (aY (bV (dB (aF rfl (aF rfl aK)) (by simp)))));rw[mH,hl]
def vB(R:Rws rz n m):Cj [WD rz]=.ok (.bl (decide (m=n))):=by
 refine cf (n:=1) ?_
 dsimp only[JE,Bx]
 exact aY (bV (aT (aW (aF rfl aK) R.things) (bU (aF rfl aK) R.len) (jf m n)))
def Bd(R:Rws rz n n)(hp:dl.Perm (g_ n)):iT [WD rz,cE dl n]=.ok (.bl true):=by
 have h7:=R.n7;have e:=vB R;rw[decide_eq_true rfl]at e;have e2:=jf n n;rw[decide_eq_true rfl]at e2;refine cf (n:=2) ?_
 dsimp only[vX,qF]
 refine aY (bV ?_);refine(eV (aW (aF rfl aK) e)).trans ?_;refine(eV (aT (bU (aF rfl aK) (jZ (hZ hp))) (bU (aF rfl aK) R.len) e2)).trans ?_;exact aT (aW (aF rfl aK) (Rs hp (by omega))) rfl rfl
def HG(R:Rws rz n n)(hl:dl.length=n):iT [WD rz,TN dl]=.ok (.bl false):=by
 have e:=vB R;rw[decide_eq_true rfl]at e;have e2:=jf n n;rw[decide_eq_true rfl]at e2;obtain⟨d,d0,⟨ds,rfl⟩,d1⟩:=Pf hl R.n1;refine cf (n:=2) ?_
 dsimp only[vX,qF]
 refine aY (bV ?_);refine(eV (aW (aF rfl aK) e)).trans ?_;refine(eV (aT (bU (aF rfl aK) (by rw[mH,hl])) (bU (aF rfl aK) R.len) e2)).trans ?_;exact aT (aW (aF rfl aK) d1) rfl rfl
def Pb(R:Rws rz n m)(h:n<m)(told:D):iT [WD rz,told]=.ok (.bl false):=by
 have e:=vB R;rw[decide_eq_false (by omega)]at e;refine cf (n:=2) ?_
 dsimp only[vX,qF]
 exact aY (bV (jz (aW (aF rfl aK) e)))
def GF(R:Rws rz n m)(k:Nat)(hl:dl.length=n):kA [WD rz,cE dl k]=.ok (.bl false):=by
 have h1:=R.n1;have hf:xE [cE dl k,nD m]=.ok (nD 0):=by cases dl with
 |nil=>simp at hl;omega
 |cons x l=>
   refine cf (n:=5) ?_
   dsimp only[xC,qW]
   refine(aU (r':=[some (cE (x::l) k),some (nD m),some (.dic []),none,none]) rfl).trans ?_;refine aY ((fV (qm (d:=cE (x::l) k) rfl rfl)).trans ?_);refine oq (d:=.tup [.int 0,bN k x]) (r1:=[some (cE (x::l) k),some (nD m),some (.dic []),some (.int 0),some (bN k x)]) rfl ?_;have hb:lE [bN k x,nD m]=.ok (.bl false):=by
    refine cf (n:=2) ?_
    dsimp only[vW,qE]
    exact aY (bV (jz (aW (d:=.bl false) (aF rfl aK) rfl)))
   exact aY ((cO (fZ (dL (b:=false) (dc (aW (aF rfl (aF rfl aK)) hb) rfl)))).trans (aY (bV rfl)))
 have hu:lG [cE dl k,nD m]=.ok (.bl false):=by
  refine cf (n:=2) ?_
  dsimp only[C3,wK]
  have e:=jf 0 n;rw[decide_eq_false (by omega)]at e;refine aY (bV (aT (aW (aF rfl (aF rfl aK)) hf) (bU (aF rfl aK) ?_) e));show some (nD (dl.map (bN k)).length)=_;rw[q_,hl]
 have e2:=jf n n;rw[decide_eq_true rfl]at e2;refine cf (n:=2) ?_
 dsimp only[C4,wM]
 refine aY (bV ?_);refine(eV (aT (bU (aF rfl aK) (?_:_=some (nD n))) (bU (aF rfl aK) R.len) e2)).trans ?_
 .show some (nD (dl.map (bN k)).length)=_;rw[q_,hl]
 exact aW (aF rfl (aF (aW (aF rfl aK) R.things) aK)) hu
def HU{k:Nat}(hk:k<=60)(d0:Option D):∀(l a:List Nat)(y:Option D),a.length+l.length<=60 ->∃y',bG (bY 3) TZ (l.map nD) [d0,some (nD k),some (.lst (a.map (bN k))),y]=.nx [d0,some (nD k),some (.lst ((a++l).map (bN k))),y']
|[],a,y,_=>⟨y,by rw[Zl];exact ia⟩
|t::l,a,y,hl=>by
  obtain⟨y',ih⟩:=HU hk d0 l (a++[t]) (some (nD t)) (by simp at hl ⊢;omega);refine⟨y',?_⟩;rw[Qcb]at ih;rw[show a++t::l=a++([t]++l)from rfl,<-ih];refine gD (r1:=[d0,some (nD k),some (.lst (a.map (bN k))),some (nD t)]) rfl ?_;have el:D.lst ((a++[t]).map (bN k))=.lst (a.map (bN k)++[bN k t]):=by rw[Q_];rfl
  rw[el];have c:=gq (nl:=1) (cap:=[3]) (fi:=fE eO (aJ (gv 1) aH)) (ft:=bY 0) (fe:=cz (aJ (fC (aJ (f2 (gv 1) (gv 0) eqD) aH) pU) (aJ (ci 1) aH))) (r:=[d0,some (nD k),some (.lst (a.map (bN k))),some (nD t)]) (l:=g_ k) nD (fun j=>fb (decide (t=j))) (jj (aF rfl aK) (jh (by omega))) (by simp;omega) fun j _=>⟨[some (nD j),some (nD t)],rfl,dB (aF (bU (aF (aT rfl rfl (jf t j)) aK) rfl) (aF rfl aK)) (by simp)⟩
  refine aU (ma (d:=.lst (a.map (bN k))) (ds:=[bN k t]) rfl rfl (aF (bU (aF c aK) ?_) aK) (vG (by simp at hl ⊢;omega)));rw[e_tupL];show some (D.tup _)=some (D.tup _);rw[L_];rfl
def BI{k:Nat}(hk:k<=60)(hl:dl.length<=60):Ci [TN dl,nD k]=.ok (cE dl k):=by
 obtain⟨y',e⟩:=HU hk (some (TN dl)) dl [] none (by simpa using hl);refine cf (n:=4) ?_
 dsimp only[JC,vH]
 refine(aU (cJ (hX aK (by simp)))).trans ?_;refine(aU ((fV (jy rfl rfl)).trans e)).trans ?_;exact aY (bV (bU (aF rfl aK) (e_tupL _)))
variable{hs:List Nat}
abbrev hv(dl:List Nat)(n t:Nat):List Nat:=(g_ n).filter fun h=>decide (dOf dl h=t)
abbrev hr(rz:List (List Nat))(dl:List Nat)(n t o:Nat):List Nat:=(hv dl n t).filter fun h=>decide (Rg.lk (Wr rz) h o t)
abbrev Eu(rz:List (List Nat))(dl:List Nat)(n t:Nat):List Nat:=(g_ n).filter fun o=>decide (hr rz dl n t o≠[])
def Mo(Z:Dl rz dl n n){h t:Nat}(hh:h<n)(ht:t<n):bP (cE dl n) (nD h)=some (bN n (dOf dl h))/\bP (bN n (dOf dl h)) (nD t)=some (fb (decide (dOf dl h=t))):=by
 refine⟨gl ?_,gl ?_⟩
 .rw[x_];have:=tT (dl:=dl) (h:=h) (by rw[Z.dn];exact hh);rw[x_]at this;cases e:dl[h]? with
 |none=>rw[e]at this;cases this
 |some x=>rw[lw e];rfl
 .rw[x_,x_,Zx ht];rfl
def D7(l:List Nat):jD (LN l)=some (decide (l≠[])):=by cases l <;> rfl
def Qp(Z:Dl rz dl n n){t o:Nat}(ht:t<n)(ho:o<n):yD [WD rz,cE dl n,nD t,nD o]=.ok (LN (hr rz dl n t o)):=by
 have h7:=Z.R.n7;refine cf (n:=5) ?_
 dsimp only[Km,Dq]
 have c1:=ku (nl:=1) (cap:=[2,1]) (fi:=fE eO (aJ (fC (aJ (gv 0) aH) lenD) aH)) (ft:=bY 0) (q:=cW (cg (aJ (fun _=>Res.ok (D.tup [D.int 0,D.int 1])) (aJ (f2 (f2 (gv 2) (gv 0) bP) (gv 1) bP) aH)) [] ls)) (fe:=gv 0) (r:=c7 5 [WD rz,cE dl n,nD t,nD o]) (l:=g_ n) nD (fun h=>decide (dOf dl h=t)) nD (jj (aF (bU (aF rfl aK) Z.R.len) aK) (jh (by omega))) (by simp;omega)
  fun h hh=>by obtain⟨a1,a2⟩:=Mo Z (s_.mp hh) ht;exact⟨[some (nD h),some (nD t),some (cE dl n)],rfl,dc (aW (aF rfl (aF (aT (aT rfl rfl a1) rfl a2) aK)) (Hu _)) rfl,fun _=>rfl⟩
 refine(aU (cJ c1)).trans ?_;have c2:=ku (nl:=1) (cap:=[0,3,2]) (fi:=bS cZ (gv 4)) (ft:=bY 0) (q:=cW (cg (aJ (gv 1) (aJ (gv 0) (aJ (gv 2) (aJ (gv 3) aH)))) [] vD)) (fe:=gv 0) (r:=[some (WD rz),some (cE dl n),some (nD t),some (nD o),some (LN (hv dl n t))]) (l:=hv dl n t) nD (fun h=>decide (Rg.lk (Wr rz) h o t)) nD rfl (Y8 (QcK ..) (by simp;omega))
  fun h hh=>⟨[some (nD h),some (WD rz),some (nD o),some (nD t)],rfl,dc (aW (aF rfl (aF rfl (aF rfl (aF rfl aK)))) (IS Z (s_.mp (Z7.mp hh).1) ho ht)) rfl,fun _=>rfl⟩
 exact aY (bV c2)
def HW(Z:Dl rz dl n n):∀(l T:List Nat)(y:Option D),(T++l).Nodup->(∀t∈T++l,t<n)->(T++l).length<=60 ->∃y',bG (bY 4) TJ (l.map nD) [some (WD rz),some (cE dl n),some (LN (g_ n)),some (.dic (T.map fun x=>(kI x,LN (Eu rz dl n x)))),y]=.nx [some (WD rz),some (cE dl n),some (LN (g_ n)),some (.dic ((T++l).map fun x=>(kI x,LN (Eu rz dl n x)))),y']
|[],T,y,_,_,_=>⟨y,by rw[Zl];exact ia⟩
|t::l,T,y,nd,lt,hl=>by
  have h7:=Z.R.n7;obtain⟨y',ih⟩:=HW Z l (T++[t]) (some (nD t)) (by simpa using nd) (by simpa using lt) (by simpa using hl);refine⟨y',?_⟩;rw[show T++t::l=T++[t]++l by simp,<-ih];have ht:t<n:=lt t (by simp);have U:t∉T:=fun z=>(List.nodup_append.mp nd).2.2 t z t r_ rfl;refine gD (r1:=[some (WD rz),some (cE dl n),some (LN (g_ n)),some (.dic (T.map fun x=>(kI x,LN (Eu rz dl n x)))),some (nD t)]) rfl ?_;have c:=ku (nl:=1) (cap:=[0,1,4]) (fi:=bS cZ (gv 2)) (ft:=bY 0) (q:=cW (cg (aJ (gv 1) (aJ (gv 2) (aJ (gv 3) (aJ (gv 0) aH)))) [] yD)) (fe:=gv 0) (r:=[some (WD rz),some (cE dl n),some (LN (g_ n)),some (.dic (T.map fun x=>(kI x,LN (Eu rz dl n x)))),some (nD t)]) (l:=g_ n) nD (fun o=>decide (hr rz dl n t o≠[])) nD rfl (by simp;omega)
   fun o ho=>⟨[some (nD o),some (WD rz),some (cE dl n),some (nD t)],rfl,dc (aW (aF rfl (aF rfl (aF rfl (aF rfl aK)))) (Qp Z ht (s_.mp ho))) (D7 _),fun _=>rfl⟩
  exact aU (l9 (d:=.dic (T.map fun x=>(kI x,LN (Eu rz dl n x)))) (k:=nD t) (v:=LN (Eu rz dl n t)) rfl c rfl (Nq (f:=fun x=>LN (Eu rz dl n x)) U (by simp at hl;omega)))
def Se(Z:Dl rz dl n n):Jp [WD rz,cE dl n]=.ok (SD (Eu rz dl n) n):=by
 have h7:=Z.R.n7;obtain⟨y',e⟩:=HW Z (g_ n) [] none (by simpa using Zn) (fun t ht=>s_.mp (by simpa using ht)) (by simp;omega);refine cf (n:=5) ?_
 dsimp only[Jo,Bj]
 refine(aU (cJ (bU (aF (bU (aF rfl aK) (jZ Z.dn)) aK) (qw (by omega))))).trans ?_;refine(aU (cJ (d:=.dic []) rfl)).trans ?_;refine(aU ((fV (jy rfl rfl)).trans e)).trans ?_;exact aY (bV rfl)
def Sd{E:Nat->List Nat}(hE:∀t<n,(E t).length<=60/\∀o∈E t,o<n)(hl:hs.length=n){t:Nat}(ht:t<n)(h:∀o∈E t,dOf hs t<dOf hs o):C9 [SD E n,LN hs,nD t]=.ok (.bl true):=by
 obtain⟨e1,e2⟩:=hE t ht;refine cf (n:=3) ?_
 dsimp only[JR,Cc]
 have c:=gq (nl:=1) (cap:=[1,2]) (fi:=bS cZ (f2 (gv 0) (gv 2) bP)) (ft:=bY 0) (fe:=f2 (f2 (gv 1) (gv 0) bP) (f2 (gv 1) (gv 2) bP) nC) (r:=c7 3 [SD E n,LN hs,nD t]) (l:=E t) nD (fun _=>.bl true) (jy (aT rfl rfl (K7 ht)) rfl) (by omega)
  fun o ho=>⟨[some (nD o),some (LN hs),some (nD t)],rfl,by have g:=zI (dOf hs o) (dOf hs t);rw[decide_eq_true (h o ho)]at g;exact aT (aT rfl rfl (nB (by rw[hl];exact e2 o ho))) (aT rfl rfl (nB (by rw[hl];exact ht))) g⟩
 refine aY (bV (bU (aF c aK) ?_));have:=lY (fun _=>true) (E t);rw[Ze.mpr fun _ _=>rfl]at this;exact this
def Rb(Z:Dl rz dl n n)(hl:hs.length=n)(h:∀t<n,∀o∈Eu rz dl n t,dOf hs t<dOf hs o):rA [WD rz,cE dl n,LN hs]=.ok (.bl true):=by
 have h7:=Z.R.n7;refine cf (n:=4) ?_
 dsimp only[xA,qV]
 have en:=uA n n;rw[decide_eq_true rfl]at en;have c1:=gq (nl:=1) (cap:=[]) (fi:=bS cZ (gv 2)) (ft:=bY 0) (fe:=fQ (cg (aJ (gv 0) aH) [] kB) (f2 (gv 0) (ci 0) yN)) (r:=c7 4 [WD rz,cE dl n,LN hs]) (l:=hs) nD (fun _=>.bl true) rfl (by omega)
  fun k _=>⟨[some (nD k)],rfl,(eV (aW (aF rfl aK) (Tu k))).trans (aT rfl rfl (by rw[E9,decide_eq_true (by omega)]))⟩
 refine(aU ((cp ?_).trans (e_skip _))).trans ?_
 .refine(dE (eY (aT (bU (aF rfl aK) (by rw[Bm,hl])) (bU (aF rfl aK) (jZ Z.dn)) en))).trans ?_;refine dL (b:=true) (dc (bU (aF c1 aK) (lY (fun _=>true) hs)) ?_);rw[Ze.mpr fun _ _=>rfl];rfl
 refine(aU (cJ (aW (aF rfl (aF rfl aK)) (Se Z)))).trans ?_;have hk:qd (SD (Eu rz dl n) n)=some ((g_ n).map nD):=by show some (ZL _ (ZL _ _))=_;rw[L_];rfl
 have hf:(bS qd (gv 3)) [some (WD rz),some (cE dl n),some (LN hs),some (SD (Eu rz dl n) n)]=.ok ((g_ n).map nD):=by unfold bS;show(dw (qd (SD (Eu rz dl n) n)))=_;rw[hk];rfl
 have hE:∀t<n,(Eu rz dl n t).length<=60/\∀o∈Eu rz dl n t,o<n:=fun t _=>⟨Y8 (QcK ..) (by simp;omega),fun o ho=>s_.mp (Z7.mp ho).1⟩
 have c2:=gq (nl:=1) (cap:=[3,2]) (fi:=bS qd (gv 3)) (ft:=bY 0) (fe:=cg (aJ (gv 1) (aJ (gv 2) (aJ (gv 0) aH))) [] C9) (r:=[some (WD rz),some (cE dl n),some (LN hs),some (SD (Eu rz dl n) n)]) (l:=g_ n) nD (fun _=>.bl true) hf (by simp;omega)
  fun t ht=>⟨[some (nD t),some (SD (Eu rz dl n) n),some (LN hs)],rfl,aW (aF rfl (aF rfl (aF rfl aK))) (Sd hE hl (s_.mp ht) (h t (s_.mp ht)))⟩
 refine aY (bV (bU (aF c2 aK) ?_));have:=lY (fun _=>true) (g_ n);rw[Ze.mpr fun _ _=>rfl]at this;exact this
def Tp(hl:dl.length=n){ds:List D}(h:ds.length≠n):rA [WD rz,cE dl n,.tup ds]=.ok (.bl false):=by
 refine cf (n:=4) ?_
 dsimp only[xA,qV]
 have en:=uA ds.length n;rw[decide_eq_false h]at en;exact aY ((cO (fZ (eY (aT (bU (aF rfl aK) rfl) (bU (aF rfl aK) (jZ hl)) en)))).trans (aY (bV rfl)))
def Tq(hl:dl.length=n)(h1:1<=n)(h9:n<=60){x:Int}(hx:x<0):rA [WD rz,cE dl n,.tup (d_ n (.int x))]=.ok (.bl false):=by
 refine cf (n:=4) ?_
 dsimp only[xA,qV]
 have en:=uA n n;rw[decide_eq_true rfl]at en;have em:d_ n (D.int x)=(g_ n).map fun _=>D.int x:=by
  refine Qbp fun i=>?_;rw[Zr,x_];by_cases hi:i<n
  .rw[if_pos hi,Zx hi];rfl
  .rw[if_neg hi,ZS (by simp;omega)];rfl
 have c1:=gq (nl:=1) (cap:=[]) (fi:=bS cZ (gv 2)) (ft:=bY 0) (fe:=fQ (cg (aJ (gv 0) aH) [] kB) (f2 (gv 0) (ci 0) yN)) (r:=c7 4 [WD rz,cE dl n,.tup (d_ n (.int x))]) (l:=g_ n) (fun _=>D.int x) (fun _=>.bl false) (by rw[<-em];rfl) (by simp;omega)
  fun k _=>⟨[some (.int x)],rfl,(eV (aW (d:=.bl true) (aF rfl aK) rfl)).trans (aT rfl rfl (by rw[E9,decide_eq_false (by omega)]))⟩
 refine aY ((cO ?_).trans (aY (bV rfl)));refine(dE (eY (aT (bU (aF rfl aK) (by show some (nD (d_ n (D.int x)).length)=_;rw[ZR])) (bU (aF rfl aK) (jZ hl)) en))).trans ?_;refine dL (b:=false) (dc (bU (aF c1 aK) (lY (fun _=>false) (g_ n))) ?_);rw[show(g_ n).all (fun _=>false)=false from by cases n with
 |zero=>omega
 |succ k=>rw[QbN];simp]
 rfl
def Jf:∀l:List Bool,Zh (zbP (l.map fb)) (zbP (l.map fb))=true
|[]=>by simp[zbP,Zh]
|b::l=>by have ih:=Jf l;simp only[U_,zbP,bI,Zh,ZF,ih];simp
def Jx(n:Nat):∀l:List Nat,Zh (zbP (l.map (bN n))) (zbP (l.map (bN n)))=true
|[]=>by simp[zbP,Zh]
|t::l=>by have h1:=Jf (iJ n t);have h2:=Jx n l;simp only[U_,zbP,bI,Zh,ZF,h1,h2,QeH]
def N5(b:Bool)(k:Nat):cP (k+1) (fb b):=iG.mpr fun d hd=>by simp only[e_,p_,or_false]at hd;rcases hd with rfl|rfl <;> (cases k <;> trivial)
def LW(dl:List Nat)(n:Nat):eqD (cE dl n) (cE dl n)=some (.bl true):=by
 have sh:cP 60 (cE dl n):=iG.mpr fun d hd=>by obtain⟨l,_,rfl⟩:=V_.mp hd;refine iG.mpr fun e he=>?_;obtain⟨b,_,rfl⟩:=V_.mp he;exact N5 b _
 have:g6 (cE dl n) (cE dl n)=some true:=by rw[oW rfl sh sh];unfold iL;simp only[bI,ZF,Jx]
 unfold eqD;rw[this];rfl
abbrev pD(dl:List Nat):D:=.tup [fb true,TN dl]
abbrev dD(dl:List Nat):D:=.lst [pD dl]
open Classical in
def Lm(hp:dl.Perm (g_ n))(h9:n<=60):iH [TN dl,nD n]=.ok (.bl true):=by have h:=k9 (n:=n) (hs:=c6 dl) true (by rw[q_,hZ hp];omega);rw[decide_eq_true (uH.mpr ⟨dl,rfl,hp⟩),uN]at h;exact h
def F5{hs:List Int}{n:Nat}(h:∃x∈hs,(n:Int)<=x):¬ Og n hs:=by
 rintro⟨o,rfl,hp⟩
 obtain⟨x,hx,hn⟩:=h;obtain⟨k,hk,rfl⟩:=V_.mp hx;have:=s_.mp (hp.mem_iff.mp hk);omega
open Classical in
def zJ(tb:Bool){hs:List Int}(hl:hs.length<=60)(h:¬ Og n hs):iH [WI tb hs,nD n]=.ok (.bl false):=by have e:=k9 (n:=n) tb hl;rw[decide_eq_false (fun z=>h (uH.mp z))]at e;exact e
def PH{d:D}{b:Bool}(h:iH [d,nD n]=.ok (.bl b)):vP [fb true,d,nD n]=.ok (.bl b):=by
 refine cf (n:=3) ?_
 dsimp only[Jm,A8]
 refine aY (bV ?_);refine(eV (aW (aF (d:=fb true) (bU (aF rfl aK) rfl) aK) (HJ true))).trans ?_;refine(eV (aW (aF rfl (aF rfl aK)) (Hu true))).trans ?_;exact aW (aF rfl (aF rfl aK)) h
def sub1(h:1<=n):iV (nD n) (.int 1)=some (nD (n-1)):=by show some (D.int ((n:Int)-1))=some (D.int ((n-1:Nat):Int));rw[show(n:Int)-1=((n-1:Nat):Int)by omega]
def M5{a b:Nat}(h:b<=60):d5 (nD a) (nD b)=some (nD (a*b)):=by have e:=Hw (a:=(a:Int)) (b:=(b:Int)) (.inr ⟨by omega,by omega⟩);rw[<-Qd7]at e;exact e
def Ix(h1:1<=n)(h9:n<=60)(d:D):(iK (dG (cW (gv 0))) (dY (f2 (fC (aJ (gv 0) aH) lenD) (f2 (f2 (f2 (gv 1) (ci 1) iV) (f2 (gv 1) (ci 1) iV) d5) (ci 1) addA) nC))) (c7 2 [.lst [d],nD n])=.ok false:=by refine(dE (dL (b:=true) (dc (d:=.lst [d]) rfl rfl))).trans ?_;have g:=zI 1 ((n-1)*(n-1)+1);rw[decide_eq_false (by omega)]at g;exact eY (aT (bU (aF rfl aK) rfl) (aT (aT (aT rfl rfl (sub1 h1)) (aT rfl rfl (sub1 h1)) (M5 (by omega))) rfl (lu _ 1)) g)
def IQ{d:D}{b:Bool}(h:iH [d,nD n]=.ok (.bl b)):(fC (aJ (eR 2 [1] (bS cZ (gv 0)) (iZ (fK (bY 0) (fK (bY 1) iQ))) (fun _=>Res.ok true) (cg (aJ (gv 0) (aJ (gv 1) (aJ (gv 2) aH))) [] vP)) aH) allD) (c7 2 [.lst [.tup [fb true,d]],nD n])=.ok (.bl b):=by
 have c:=gq (nl:=2) (cap:=[1]) (fi:=bS cZ (gv 0)) (ft:=iZ (fK (bY 0) (fK (bY 1) iQ))) (fe:=cg (aJ (gv 0) (aJ (gv 1) (aJ (gv 2) aH))) [] vP) (r:=c7 2 [.lst [.tup [fb true,d]],nD n]) (l:=[()]) (fun _=>.tup [fb true,d]) (fun _=>.bl b) rfl (by simp) fun _ _=>⟨[some (fb true),some d,some (nD n)],rfl,aW (aF rfl (aF rfl (aF rfl aK))) (PH h)⟩
 refine bU (aF c aK) ?_;have:=lY (fun _:Unit=>b) [()];rw[show[()].all (fun _:Unit=>b)=b by simp]at this;exact this
def PM(hp:dl.Perm (g_ n))(h1:1<=n)(h9:n<=60):qZ [dD dl,nD n]=.ok (.bl true):=by
 refine cf (n:=2) ?_
 dsimp only[wF,qS]
 refine(aU ((cp (Ix h1 h9 _)).trans (e_skip _))).trans ?_;refine(aU ((cp (dL (b:=true) (dc (IQ (Lm hp h9)) rfl))).trans (e_skip _))).trans ?_;have c:=gq (nl:=2) (cap:=[]) (fi:=bS cZ (gv 0)) (ft:=iZ (fK (bY 0) (fK (bY 1) iQ))) (fe:=fC (aJ (gv 1) aH) tupD) (r:=c7 2 [dD dl,nD n]) (l:=[()]) (fun _=>pD dl) (fun _=>TN dl) rfl (by simp) fun _ _=>⟨[some (fb true),some (TN dl)],rfl,bU (aF rfl aK) rfl⟩
 have hs:zO [.lst [TN dl]]=some (nD 1):=by show(ko (dl.map nD)).map (fun _=>D.int 1)=_;rw[Ig];rfl
 have e:=jf 1 1;rw[decide_eq_true rfl]at e;exact aY (bV (aT (bU (aF c aK) hs) (bU (aF rfl aK) rfl) e))
def PL{d:D}(h:iH [d,nD n]=.ok (.bl false))(h1:1<=n)(h9:n<=60):qZ [.lst [.tup [fb true,d]],nD n]=.ok (.bl false):=by
 refine cf (n:=2) ?_
 dsimp only[wF,qS]
 refine(aU ((cp (Ix h1 h9 _)).trans (e_skip _))).trans ?_;exact aY ((cO (dL (b:=false) (dc (IQ h) rfl))).trans (aY (bV rfl)))
def PK:qZ [.tup [],nD n]=.ok (.bl false):=by
 refine cf (n:=2) ?_
 dsimp only[wF,qS]
 exact aY ((cO (fZ (dL (b:=false) (dc (d:=.tup []) rfl rfl)))).trans (aY (bV rfl)))
def Qt(hl:dl.length=n){h t:Nat}(hh:h<n):vY [dD dl,nD h,nD t]=.ok (fb (decide (dOf dl h=t))):=by
 refine cf (n:=3) ?_
 dsimp only[Jn,Bi]
 refine aY (bV ?_);have c:=ku (nl:=2) (cap:=[2,1]) (fi:=bS cZ (gv 0)) (ft:=iZ (fK (bY 0) (fK (bY 1) iQ))) (q:=dY (f2 (f2 (gv 1) (gv 3) bP) (gv 2) eqD)) (fe:=gv 0) (r:=c7 3 [dD dl,nD h,nD t]) (l:=[()]) (fun _=>pD dl) (fun _=>decide (dOf dl h=t)) (fun _=>fb true) rfl (by simp) fun _ _=>⟨[some (fb true),some (TN dl),some (nD t),some (nD h)],rfl,eY (aT (aT rfl rfl (gl (tT (by rw[hl];exact hh)))) rfl (jf _ _)),fun _=>rfl⟩
 by_cases z:dOf dl h=t
 .have ht:=vT (d0:=.lst [fb true]) (l:=[true]) rfl (by simp);rw[decide_eq_true z]at c ⊢;exact aW (aF c aK) ht
 .have ht:=vT (d0:=.lst []) (l:=[]) rfl (by simp);rw[decide_eq_false z]at c ⊢;exact aW (aF c aK) ht
def Hx(hl:dl.length=n)(h9:n<=60):∀(j i:Nat)(y:Option D),i+j=n ->∃y',bG (bY 3) Re ((QdZ i j).map nD) [some (dD dl),some (nD n),some (.lst ((g_ i).map fun h=>bN n (dOf dl h))),y]=.nx [some (dD dl),some (nD n),some (.lst ((g_ n).map fun h=>bN n (dOf dl h))),y']
|0,i,y,h=>⟨y,by rw[show i=n by omega];exact ia⟩
|j+1,i,y,h=>by
  obtain⟨y',ih⟩:=Hx hl h9 j (i+1) (some (nD i)) (by omega);refine⟨y',?_⟩;rw[Qco,U_];refine(gD (r1:=[some (dD dl),some (nD n),some (.lst ((g_ i).map fun h=>bN n (dOf dl h))),some (nD i)]) rfl ?_).trans ih;have c:=gq (nl:=1) (cap:=[0,3]) (fi:=fE eO (aJ (gv 1) aH)) (ft:=bY 0) (fe:=cg (aJ (gv 1) (aJ (gv 2) (aJ (gv 0) aH))) [] vY) (r:=[some (dD dl),some (nD n),some (.lst ((g_ i).map fun h=>bN n (dOf dl h))),some (nD i)]) (l:=g_ n) nD (fun t=>fb (decide (dOf dl i=t))) (jj (aF rfl aK) (jh (by omega))) (by simp;omega) fun t _=>⟨[some (nD t),some (dD dl),some (nD i)],rfl,aW (aF rfl (aF rfl (aF rfl aK))) (Qt hl (by omega))⟩
  rw[QbN,Q_];refine aU (ma (d:=.lst ((g_ i).map fun h=>bN n (dOf dl h))) (ds:=[bN n (dOf dl i)]) rfl rfl (aF (bU (aF c aK) ?_) aK) (vG (by simp;omega)));rw[e_tupL];show some (D.tup _)=some (D.tup _);rw[L_];rfl
def Sn(hl:dl.length=n)(h9:n<=60):Hf [dD dl]=.ok (cE dl n):=by
 obtain⟨y',e⟩:=Hx hl h9 n 0 none (by omega);rw[<-QcU]at e;refine cf (n:=4) ?_
 dsimp only[Hd,Ah]
 refine(aU (cJ (bU (aF (d:=TN dl) (aT (aT rfl rfl rfl) rfl (gl (i:=1) rfl)) aK) (by rw[mH,hl])))).trans ?_;refine(aU (cJ (hX aK (by simp)))).trans ?_;refine(aU ((fV (jj (aF rfl aK) (jh (by omega)))).trans e)).trans ?_;refine aY (bV (bU (aF rfl aK) ?_));rw[e_tupL];have:(g_ n).map (fun h=>bN n (dOf dl h))=dl.map (bN n):=by
  have e:(g_ n).map (fun h=>bN n (dOf dl h))=((g_ n).map (dOf dl)).map (bN n):=by rw[L_];rfl
  rw[e,Mn hl]
 rw[this]
def Pe{m1:List Md}{hit:Str->Bool}{fb fh:FS}{r:aL}{d:D}(h:fb r=.rt d):iU m1 hit fb fh r=.rt d:=by unfold iU;rw[h]
structure Sy(rz:List (List Nat))(told:D)(b:Bool)(q:Str×List (Str×D)):Prop where
 hit:ky q.1=true
 lk:q.2.lookup ("shows" : Str)=none
 sh:kz [iD q.1 q.2,WD rz,told]=.ok (.bl b)
abbrev pS(ps:List (Str×List (Str×D))):D:=.lst (ps.map fun q=>iD q.1 q.2)
def HX{rz:List (List Nat)}{told:D}{b:Bool}(d0:Option D):∀(l:List (Str×List (Str×D)))(y4 y5:Option D),(∀q∈l,Sy rz told b q) ->∃U z,bG (bY 4) TY (l.map fun q=>iD q.1 q.2) [d0,some (WD rz),some told,some (.bl b),y4,y5]=.nx [d0,some (WD rz),some told,some (.bl b),U,z]
|[],y4,y5,_=>⟨y4,y5,ia⟩
|q::l,y4,y5,h=>by
  obtain⟨U,z,ih⟩:=HX d0 l (some (iD q.1 q.2)) (some (.bl b)) fun q hq=>h q (m_ _ hq);have p:=h q r_;refine⟨U,z,(gD (r1:=[d0,some (WD rz),some told,some (.bl b),some (iD q.1 q.2),y5]) rfl ?_).trans ih⟩;have hm:(pR ky "shows" (gv 4) (aJ (gv 1) (aJ (gv 2) aH)) kz) [d0,some (WD rz),some told,some (.bl b),some (iD q.1 q.2),y5]=.ok (.bl b):=by show(if ky q.1=true/\q.2.lookup ("shows" : Str)=none then lN (kz [iD q.1 q.2,WD rz,told])else .stuck)=_;rw[if_pos ⟨p.hit,p.lk⟩,p.sh];rfl
  refine(aU (cJ hm)).trans ?_;refine(aU ((cp ?_).trans (e_skip _))).trans rfl;refine(dE (dL (b:=true) (dc (d:=.bl true) (fJ (a:=.bl b) rfl rfl) rfl))).trans ?_;refine eY (aT rfl rfl ?_);cases b <;> rfl
def kO{rz:List (List Nat)}{told:D}{b:Bool}{ps:List (Str×List (Str×D))}(h:∀q∈ps,Sy rz told b q):jC [pS ps,WD rz,told,.bl b]=.ok (.bl true):=by
 obtain⟨y4,y5,e⟩:=HX (some (pS ps)) ps none none h;refine cf (n:=6) ?_
 dsimp only[JB,Bu]
 refine(aU ((fV (jy (d:=pS ps) rfl rfl)).trans e)).trans ?_;exact aY (bV (d:=.bl true) rfl)
section
variable{k:Nat}{told:D}
def Gw(Z:Dl rz dl n m)(tb:Bool){o:List Nat}(hp:o.Perm (g_ n))(h:dealt rz n m o=dl):Sy rz (TN dl) true ("Ordered",[("order",WL tb o)]):=by refine⟨rfl,rfl,?_⟩;have:=Ry Z tb hp;rw[decide_eq_true h,OO,uN]at this;exact this
def HZ(Z:Dl rz dl n m)(tb:Bool){xs:List Int}(hl:xs.length<=60)(h:¬ Og n xs):Sy rz (TN dl) false ("Ordered",[("order",WI tb xs)]):=⟨rfl,rfl,Rz Z tb hl h⟩
def uW(R:Rws rz n m)(hl:dl.length=n)(d:D):Sy rz (cE dl k) false ("Ordered",[("order",d)]):=by
 refine⟨rfl,rfl,?_⟩;show rZ [iD "Ordered" [("order",d)],WD rz,cE dl k]=_;refine cf (n:=3) ?_
 dsimp only[xX,rC]
 exact aY (Pe (aY (bV (jz (aW (aF rfl (aF rfl aK)) (GF R k hl))))))
def uV(R:Rws rz n n){a b:D}(h:iH [a,nD n]=.ok (.bl false)):Sy rz told false ("Goes",[("owns",a),("ring",b)]):=by
 refine⟨rfl,rfl,?_⟩;show C8 [iD "Goes" [("owns",a),("ring",b)],WD rz,told]=_;have e:=vB R;rw[decide_eq_true rfl]at e;refine cf (n:=4) ?_
 dsimp only[JP,BH]
 refine(aU (cJ (d:=.bl false) ((eV (aW (aF rfl aK) e)).trans (aW (aF (d:=a) (fJ (a:=iD "Goes" [("owns",a),("ring",b)]) rfl rfl) (aF (bU (aF rfl aK) R.len) aK)) h)))).trans ?_;exact aY (bV (jz rfl))
def pZ(Z:Dl rz dl n m){tb:Bool}{xs:List Int}{o:Option Int}{b:Bool}(h:lJ [WD rz,TN dl,wz tb xs o]=.ok (.bl b)):Sy rz (TN dl) b ("Betters",[("way",wz tb xs o)]):=⟨rfl,rfl,Sa Z h⟩
def uU(R:Rws rz n m)(hl:dl.length=n)(d:D):Sy rz (cE dl k) false ("Betters",[("way",d)]):=by
 refine⟨rfl,rfl,?_⟩;show xZ [iD "Betters" [("way",d)],WD rz,cE dl k]=_;refine cf (n:=3) ?_
 dsimp only[Dy,xJ]
 exact aY (bV (jz (aW (aF rfl (aF rfl aK)) (GF R k hl))))
def Az{d:D}{b:Bool}(h1:iT [WD rz,told]=.ok (.bl true))(h2:rA [WD rz,told,d]=.ok (.bl b)):Sy rz told b ("Rising",[("heights",d)]):=by
 refine⟨rfl,rfl,?_⟩;show xS [iD "Rising" [("heights",d)],WD rz,told]=_;refine cf (n:=3) ?_
 dsimp only[Da,wO]
 exact aY (bV ((eV (aW (aF rfl (aF rfl aK)) h1)).trans (aW (aF rfl (aF rfl (aF (d:=d) (fJ (a:=iD "Rising" [("heights",d)]) rfl rfl) aK))) h2)))
def qt{d:D}(h1:iT [WD rz,told]=.ok (.bl false)):Sy rz told false ("Rising",[("heights",d)]):=by
 refine⟨rfl,rfl,?_⟩;show xS [iD "Rising" [("heights",d)],WD rz,told]=_;refine cf (n:=3) ?_
 dsimp only[Da,wO]
 exact aY (bV (jz (aW (aF rfl (aF rfl aK)) h1)))
def Bc{a b:D}(h1:iT [WD rz,told]=.ok (.bl false)):Sy rz told false ("Handing",[("ring",a),("part",b)]):=by
 refine⟨rfl,rfl,?_⟩;show yA [iD "Handing" [("ring",a),("part",b)],WD rz,told]=_;refine cf (n:=3) ?_
 dsimp only[Dz,xK]
 exact aY ((cO (fZ (dL (b:=false) (dc (aW (aF rfl (aF rfl aK)) h1) rfl)))).trans (aY (bV rfl)))
def Gv{a b:D}(h1:iT [WD rz,told]=.ok (.bl true))(h2:xP [WD rz,told,a]=.ok (.bl false)):Sy rz told false ("Handing",[("ring",a),("part",b)]):=by
 refine⟨rfl,rfl,?_⟩;show yA [iD "Handing" [("ring",a),("part",b)],WD rz,told]=_;refine cf (n:=3) ?_
 dsimp only[Dz,xK]
 refine aY ((cO ((dE (dL (b:=true) (dc (aW (aF rfl (aF rfl aK)) h1) rfl))).trans (dL (b:=false) (dc (aW (aF rfl (aF rfl (aF (d:=a) (fJ (a:=iD "Handing" [("ring",a),("part",b)]) rfl rfl) aK))) h2) rfl)))).trans (aY (bV rfl)))
def uX{d:D}(h1:iT [WD rz,told]=.ok (.bl false)):Sy rz told false ("Parted",[("parts",d)]):=by
 refine⟨rfl,rfl,?_⟩;show sj [iD "Parted" [("parts",d)],WD rz,told]=_;refine cf (n:=3) ?_
 dsimp only[xR,rJ]
 exact aY (bV (jz (aW (aF rfl (aF rfl aK)) h1)))
def Ia{d:D}(hl:dl.length=n)(h1:iT [WD rz,cE dl n]=.ok (.bl true))(h2:qZ [d,nD n]=.ok (.bl false)):Sy rz (cE dl n) false ("Parted",[("parts",d)]):=by
 refine⟨rfl,rfl,?_⟩;show sj [iD "Parted" [("parts",d)],WD rz,cE dl n]=_;refine cf (n:=3) ?_
 dsimp only[xR,rJ]
 exact aY (bV ((eV (aW (aF rfl (aF rfl aK)) h1)).trans (jz (aW (aF (d:=d) (fJ (a:=iD "Parted" [("parts",d)]) rfl rfl) (aF (bU (aF rfl aK) (jZ hl)) aK)) h2))))
def O9(R:Rws rz n n)(hp:dl.Perm (g_ n)):Sy rz (cE dl n) true ("Parted",[("parts",dD dl)]):=by
 have h7:=R.n7;have hl:=hZ hp;refine⟨rfl,rfl,?_⟩;show sj [iD "Parted" [("parts",dD dl)],WD rz,cE dl n]=_;refine cf (n:=3) ?_
 dsimp only[xR,rJ]
 refine aY (bV ((eV (aW (aF rfl (aF rfl aK)) (Bd R hp))).trans ?_));refine(eV (aW (aF (d:=dD dl) (fJ (a:=iD "Parted" [("parts",dD dl)]) rfl rfl) (aF (bU (aF rfl aK) (jZ hl)) aK)) (PM hp R.n1 (by omega)))).trans ?_;exact aT (aW (aF (d:=dD dl) (fJ (a:=iD "Parted" [("parts",dD dl)]) rfl rfl) aK) (Sn hl (by omega))) rfl (LW dl n)
def NM(d:D):xP [WD rz,d,.tup []]=.ok (.bl false):=by
 refine cf (n:=6) ?_
 dsimp only[DA,xL]
 refine(aU (cJ (d:=.lst []) rfl)).trans ?_;refine(aU (cJ (d:=.lst []) rfl)).trans ?_;exact aY ((cO (fZ (dL (b:=false) (dc (d:=.tup []) rfl rfl)))).trans (aY (bV rfl)))
open Classical in
def Qi(hl:dl.length=n){x:Int}(hx:(n:Int)<=x):xP [WD rz,cE dl n,.tup [.tup [.int 0,.int x],.tup [.int x,.int 0]]]=.ok (.bl false):=by
 have hu:=sk (n:=n) (hs:=[x,0]) false (by simp);rw[decide_eq_false (fun z=>by obtain⟨ks,e,_,lt⟩:=L3 z;cases ks with
 |nil=>cases e
 |cons a r=>
   have e1:x=(a:Int):=by injection e
   have:=lt a r_;omega)]at hu
 refine cf (n:=6) ?_
 dsimp only[DA,xL]
 refine(aU (cJ (d:=.lst [.int 0,.int x]) rfl)).trans ?_;refine(aU (cJ (d:=.lst [.int x,.int 0]) rfl)).trans ?_;refine aY ((cO ?_).trans (aY (bV rfl)));refine(dE (dL (b:=true) (dc (d:=.tup [.tup [.int 0,.int x],.tup [.int x,.int 0]]) rfl rfl))).trans ?_;exact fZ (dL (b:=false) (dc (aW (aF (d:=.lst [.int x,.int 0]) rfl (aF (bU (aF rfl aK) (jZ hl)) aK)) hu) rfl))
end
def II{W:Nat->List Nat}{d:Nat->Nat}:∀(o T:List Nat),Rg.lP W d o T->∀(i h:Nat),o[i]? = some h->∀x∈T,x∈W h->Rg.lk W h x (d h)->∃j h',j<i/\o[j]? = some h'/\d h'=x
|[],_,_,i,h,e,_,_,_,_=>by cases e
|a::o,T,s,0,h,e,x,hx,hw,hk=>by cases e;have:=Rg.Mt hx hw;rw[s.1]at this;exact absurd hk (Nat.not_lt.mpr this)
|a::o,T,s,i+1,h,e,x,hx,hw,hk=>by
  by_cases z:d a=x
  .exact⟨0,a,by omega,rfl,z⟩
  .obtain⟨j,h',q1,q2,q3⟩:=II o (T.erase (d a)) s.2 i h e x ((QbG (ZP z)).mpr hx) hw hk;exact⟨j+1,h',by omega,q2,q3⟩
variable{o:List Nat}
def qx(R:Rws rz n m)(hp:o.Perm (g_ n)):Dl rz (dealt rz n m o) n m:=by
 have U:=hp.nodup_iff.mpr Zn;have s:=Rg.tz (W:=Wr rz) o (g_ m) U;have Y:=R.nm;obtain⟨q1,q2⟩:=Rg.F1 s Zn (by rw[hZ hp,Qcf];exact Y) fun h hh x hx=>R.has (s_.mp (hp.mem_iff.mp hh)) (s_.mp hx);have hm:∀h,h<n->h∈o:=fun h hh=>hp.mem_iff.mpr (s_.mpr hh);refine⟨R,by simp,?_,fun x hx=>?_⟩
 .rw[List.nodup_iff_pairwise_ne,List.pairwise_map];refine QeI (fun{a b} ha hb h z=>h ?_) Zn;exact q2 a (hm a (s_.mp ha)) b (hm b (s_.mp hb)) U z
 .obtain⟨h,hh,rfl⟩:=V_.mp hx;exact s_.mp (q1 h (hm h (s_.mp hh)))
def uY(Z:Dl rz dl n n):dl.Perm (g_ n):=by
 have:=(GV (n:=n) (l:=ju dl)).mp ⟨by simp[Z.dn],⟨dl,rfl,Z.nd,Z.lt⟩⟩;obtain⟨ks,e,p⟩:=this;have:dl=ks:=by have:=congrArg (ZL fun o:Option Int=>(o.getD 0).toNat) e;simpa[Qbq]using this
 rw[this];exact p
structure Hg(dl o:List Nat)(n i:Nat)(hs:List Nat):Prop where
 ln:hs.length=n
 at':∀j h,j<i->o[j]? = some h->dOf hs (dOf dl h)=n-j
def GW(Z:Dl rz dl n n)(hp:o.Perm (g_ n))(d0 d1:Option D):∀(l pre:List Nat)(hs:List Nat)(y5 y6:Option D),pre++l=o->Hg dl o n pre.length hs ->∃U Y BT,Hg dl o n n U/\bG (iZ (fK (bY 5) (fK (bY 6) iQ))) Us (db pre.length (l.map nD)) [d0,d1,some (nD n),some (LN hs),some (TN dl),y5,y6]=.nx [d0,d1,some (nD n),some (LN U),some (TN dl),Y,BT]
|[],pre,hs,y5,y6,e,g=>⟨hs,y5,y6,by rw[Zl]at e;rw[e,hZ hp]at g;exact g,ia⟩
|h::l,pre,hs,y5,y6,e,g=>by
  have hl:=hZ hp;have hlen:pre.length+(l.length+1)=n:=by rw[<-hl,<-e];simp
  have hh:h<n:=s_.mp (hp.mem_iff.mp (by rw[<-e];simp));have ld:o[pre.length]? = some h:=by rw[<-e];simp
  have hx:dOf dl h<n:=Z.dlt hh;have g':Hg dl o n (pre++[h]).length (hs.set (dOf dl h) (n-pre.length)):=by
   refine⟨by rw[ZO];exact g.ln,fun j k hj hk=>?_⟩;unfold dOf;rw[A_];by_cases z:dOf dl h=dOf dl k
   .have hk':k<n:=s_.mp (hp.mem_iff.mp (Z0 hk));have:h=k:=GP Z.nd (by rw[Z.dn];exact hh) (by rw[Z.dn];exact hk') z;subst this;have Id:j=pre.length:=by have Cl:=hp.nodup_iff.mpr Zn;exact GP Cl (i_.mp hk).1 (i_.mp ld).1 (by rw[lw hk,lw ld])
    subst Id;rw[show dl.getD h 0=dOf dl h from rfl,j_ (by rw[g.ln];exact hx)];rfl
   .rw[show dl.getD h 0=dOf dl h from rfl,show dl.getD k 0=dOf dl k from rfl,b_ z,<-A_];refine g.at' j k ?_ hk;have:j≠pre.length:=by
     rintro rfl
     rw[ld]at hk;cases hk;exact z rfl
    simp at hj;omega
  obtain⟨U,Y,BT,gg,ih⟩:=GW Z hp d0 d1 l (pre++[h]) _ (some (nD pre.length)) (some (nD h)) (by rw[<-e];simp) g';refine⟨U,Y,BT,gg,?_⟩;rw[show(pre++[h]).length=pre.length+1 by simp]at ih;rw[<-ih];show bG _ _ (.tup [.int ((pre.length:Nat):Int),nD h]::db (pre.length+1) (l.map nD)) _=_;refine gD (r1:=[d0,d1,some (nD n),some (LN hs),some (TN dl),some (nD pre.length),some (nD h)]) rfl ?_;have hsb:iV (nD n) (nD pre.length)=some (nD (n-pre.length)):=by show some (D.int ((n:Int)-(pre.length:Int)))=some (D.int ((n-pre.length:Nat):Int));rw[show(n:Int)-(pre.length:Int)=((n-pre.length:Nat):Int)by omega]
  have es:LN (hs.set (dOf dl h) (n-pre.length))=.lst ((hs.map nD).set (dOf dl h) (nD (n-pre.length))):=by rw[<-QdJ]
  rw[es];exact aU (l9 (d:=LN hs) (k:=nD (dOf dl h)) (v:=nD (n-pre.length)) rfl (aT rfl rfl hsb) (aT rfl rfl (Z.at hh)) (AD (by rw[q_,g.ln];exact hx)))
def Td(R:Rws rz n n)(hp:o.Perm (g_ n)):∃hs,Hg (dealt rz n n o) o n n hs/\xU [WD rz,LN o,nD n]=.ok (LN hs):=by
 have h7:=R.n7;have Z:=qx R hp;have hl:=hZ hp;obtain⟨z,y5,y6,g,e⟩:=GW Z hp (some (WD rz)) (some (LN o)) o [] (o.map fun _=>0) none none rfl ⟨by simpa using hl,fun j h hj=>absurd hj (by simp)⟩;refine⟨z,g,cf (n:=7) ?_⟩
 dsimp only[J9,Cw]
 have c:=gq (nl:=1) (cap:=[]) (fi:=bS cZ (gv 1)) (ft:=bY 0) (fe:=fun _=>Res.ok (D.int 0)) (r:=c7 7 [WD rz,LN o,nD n]) (l:=o) nD (fun _=>.int 0) rfl (by omega) fun h _=>⟨[some (nD h)],rfl,rfl⟩
 have em:D.lst (o.map fun _=>D.int 0)=LN (o.map fun _=>0):=by show _=D.lst (ZL nD (ZL _ o));rw[L_];rfl
 rw[em]at c;refine(aU (cJ c)).trans ?_;refine(aU (cJ (aW (aF rfl (aF rfl aK)) (yF R false hp)))).trans ?_;refine(aU ((fV (qm (d:=LN o) rfl rfl)).trans e)).trans ?_;exact aY (bV rfl)
def KY(R:Rws rz n n)(hp:o.Perm (g_ n))(g:Hg (dealt rz n n o) o n n hs):∀t<n,∀x∈Eu rz (dealt rz n n o) n t,dOf hs t<dOf hs x:=by
 intro t ht x hx;have Z:=qx R hp;have hl:=hZ hp;have Cl:=hp.nodup_iff.mpr Zn;obtain⟨Y,BT⟩:=Z7.mp hx;have IO:=s_.mp Y;have hne:=of_decide_eq_true BT;obtain⟨h,hh⟩:=List.exists_mem_of_ne_nil _ hne;obtain⟨hv,hk⟩:=Z7.mp hh;obtain⟨hr,hd⟩:=Z7.mp hv;have z:=s_.mp hr;have hd:=of_decide_eq_true hd;have hk:=of_decide_eq_true hk;have U:∀a,a<n->dOf (dealt rz n n o) a=Rg.fq (Wr rz) o (g_ n) a:=fun a ha=>lw (by rw[x_,Zx ha];rfl);obtain⟨i,hi⟩:=List.getElem?_of_mem (hp.mem_iff.mpr (s_.mpr z));rw[<-hd,U h z]at hk;obtain⟨j,h',q1,q2,q3⟩:=II o (g_ n) (Rg.tz o (g_ n) Cl) i h hi x Y (R.has z IO) hk;have Id:i<n:=by rw[<-hl];exact(i_.mp hi).1
 have a1:=g.at' i h Id hi;have a2:=g.at' j h' (by omega) q2;have ld:h'<n:=s_.mp (hp.mem_iff.mp (Z0 q2));rw[hd]at a1;rw[U h' ld,q3]at a2;rw[a1,a2];omega
def Pl:Nat->D->Prop
|_,.int _=>True
|k+1,.tup ds=>∀d∈ds,Pl k d
|k+1,.lst ds=>∀d∈ds,Pl k d
|_,_=>False
def nG:∀{ds:List D},(∀d∈ds,ZF (bI d) (bI d)=true)->Zh (zbP ds) (zbP ds)=true
|[],_=>by simp[zbP,Zh]
|d::ds,h=>by have h1:=h d r_;have h2:=nG fun e he=>h e (m_ _ he);simp only[zbP,Zh,h1,h2,QeH]
def MP:∀(k:Nat)(d:D),Pl k d->ZF (bI d) (bI d)=true/\cP k d:=by
 intro k
 induction k with
|zero=>intro d h;cases d with
 |int i=>exact⟨by simp[bI,ZF],trivial⟩
 |_=>exact h.elim
|succ k ih=>intro d h;cases d with
 |int i=>exact⟨by simp[bI,ZF],trivial⟩
 |tup ds=>exact⟨by simp only[bI,ZF];exact nG fun d hd=>(ih d (h d hd)).1,iG.mpr fun d hd=>(ih d (h d hd)).2⟩
 |lst ds=>exact⟨by simp only[bI,ZF];exact nG fun d hd=>(ih d (h d hd)).1,Ba.mpr fun d hd=>(ih d (h d hd)).2⟩
 |_=>exact h.elim
def Ao{d:D}(h:Pl 60 d)(hd:(∃ds,d=.lst ds)\/∃ds,d=.tup ds):g6 d d=some true:=by
 obtain⟨h1,h2⟩:=MP 60 d h;rcases hd with⟨ds,rfl⟩|⟨ds,rfl⟩
 .rw[oW rfl h2 h2];unfold iL;rw[h1]
 .rw[oW rfl h2 h2];unfold iL;rw[h1]
def kU(k:Nat){l:List Nat}:∀d∈l.map nD,Pl k d:=fun d hd=>by obtain⟨x,_,rfl⟩:=V_.mp hd;cases k <;> trivial
def KP(k:Nat)(dl:List Nat):Pl (k+3) (pD dl):=fun d hd=>by
 simp only[e_,p_,or_false]at hd;rcases hd with rfl|rfl
 .intro e he;simp only[e_,p_,or_false]at he;rcases he with rfl|rfl <;> trivial
 .exact kU (k+1)
def tK{l:List Nat}:∀d∈l.map nD,Cln d:=fun d hd=>by obtain⟨x,_,rfl⟩:=V_.mp hd;exact .int _
def Mh(b:Bool):Cln (fb b):=sW _ _
def Mi(dl:List Nat):Cln (pD dl):=.tup fun d hd=>by
 simp only[e_,p_,or_false]at hd;rcases hd with rfl|rfl
 .exact Mh true
 .exact .tup tK
def nH(k:Nat){l:List Nat}:∀d∈l.map nD,Cp k d:=fun d hd=>by obtain⟨x,_,rfl⟩:=V_.mp hd;exact eU k x
def zE{l:List Nat}(h:l.length<=1000):Cp 5 (LN l):=⟨by simpa using h,nH 4⟩
def Fl{dl:List Nat}(h:dl.length<=1000):Cp 5 (dD dl):=⟨by simp,fun d hd=>by
 rw[H_.mp hd];refine⟨by simp,fun e he=>?_⟩;simp only[e_,p_,or_false]at he;rcases he with rfl|rfl
 .refine⟨by simp,fun e he=>?_⟩;simp only[e_,p_,or_false]at he;rcases he with rfl|rfl <;> exact eU _ _
 .exact⟨by simpa using h,nH _⟩⟩
def qJ{a:D}(h1:Cp 5 a):iI [a]=.ok [("heights",a)]:=by unfold iI CB d6;rw[aW (aF rfl aK) (lF 5 a h1)];rfl
def vS{a:D}(h1:Cp 5 a):js [a]=.ok [("parts",a)]:=by unfold js CA d6;rw[aW (aF rfl aK) (lF 5 a h1)];rfl
def wA{a b:D}(h1:Cp 5 a)(h2:Cp 5 b):iS [a,b]=.ok [("ring",a),("part",b)]:=by unfold iS C6 d6;rw[aW (aF rfl aK) (lF 5 a h1)];have e:=aW (fl:=aJ (gv 2) aH) (dds:=[]) (F:=gV) (r:=none::(ZL some [a,b]++d_ (CP.length-([a,b].length+1)) none)) (aF rfl aK) (lF 5 b h2);simp only[e];rfl
def GG{f:aL->Option (aL×List (List D))}{F:aL->List (List D)->Out}{r r':aL}{w:List (List D)}(h:f r=some (r',w)):uB f F r=F r' w:=by unfold uB;rw[h]
def mv{f:lR}{F:aL->List (List D)->Out}{r r':aL}{w w':List (List D)}(h:f r w=some (r',w')):tJ f F r w=F r' w':=by unfold tJ;rw[h]
def Aa{f:FS}{r r':aL}{w:List (List D)}(h:f r=.nx r'):jP f r w=some (r',w):=by unfold jP;rw[h]
def oS{w:List (List D)}{r:aL}{k:Nat}{ds:List D}(h:w[k]? = some ds):eD w (fun _=>Res.ok (D.int (k:Int))) r=.ok (.lst ds):=by
 have hk:k<w.length:=(i_.mp h).1;have e:gu w.length (k:Int)=some k:=by unfold gu;rw[if_pos (by omega),if_pos (by omega)];rfl
 show dw (((gu w.length (k:Int)).bind (w[·]?)).map D.lst)=_;rw[e,Qaf,h];rfl
def GS{i j:Nat}{r:aL}{w:List (List D)}(hi:c8 (iY i r w) i=.ok (.lst (w.map D.lst)))(hl:w.length<=1000)(hc:∀ds∈w,∀d∈ds,Cln d):tU i j (eR 1 [] (bS cZ (fun r=>c8 r i)) (bY 0) (fun _=>Res.ok true) (fC (aJ (gv 0) aH) ki)) r w=some (r.set j (some (.lst (w.map D.lst))),w):=by
 have c:=gq (nl:=1) (cap:=[]) (fi:=bS cZ (fun r=>c8 r i)) (ft:=bY 0) (fe:=fC (aJ (gv 0) aH) ki) (r:=iY i r w) (l:=w) D.lst D.lst (jy hi rfl) hl fun ds _=>⟨[some (.lst ds)],rfl,bU (aF rfl aK) rfl⟩
 have e:lU j (eR 1 [] (bS cZ (fun r=>c8 r i)) (bY 0) (fun _=>Res.ok true) (fC (aJ (gv 0) aH) ki)) (iY i r w)=some ((iY i r w).set j none,w):=by unfold lU;rw[c];show(j0 (w.map D.lst)).map _=_;rw[R9];rfl
 unfold tU;rw[e];exact if_pos hc
def zB{r:aL}{w:List (List D)}{k:Nat}(hk:k<w.length)(h:(w.getD k []).length<=900):ll kP (ll (ir 0) jK) r w k=some (w.set k ((w.getD k []).reverse++[.int 0])):=by
 have e:(w.set k (w.getD k []).reverse).getD k []=(w.getD k []).reverse:=by rw[A_,j_ hk];rfl
 show(ir 0 r (w.set k (w.getD k []).reverse) k).bind (fun w1=>jK r w1 k)=_;unfold ir;rw[e,if_pos (by rw[Qc2,J_];omega),Qaf,List.set_set];rfl
def Fu{jr:Nat}{r:aL}{a b c:List D}(ha:a.length<=900)(hb:b.length<=900)(hc:c.length<=900):∃w',tY jr (ll kP (ll (ir 0) jK)) r [a,b,c]=some (r.set jr none,w'):=by refine⟨[a.reverse++[.int 0],b.reverse++[.int 0],c.reverse++[.int 0]],?_⟩;unfold tY;show(fB (ll kP (ll (ir 0) jK)) (r.set jr none) 3 0 [a,b,c]).map _=_;rw[fB,zB (w:=[a,b,c]) (k:=0) (by simp) ha,Qaf];show(fB _ _ 2 1 [a.reverse++[.int 0],b,c]).map _=_;rw[fB,zB (w:=[a.reverse++[D.int 0],b,c]) (k:=1) (by simp) hb,Qaf];show(fB _ _ 1 2 [a.reverse++[.int 0],b.reverse++[.int 0],c]).map _=_;rw[fB,zB (w:=[a.reverse++[D.int 0],b.reverse++[D.int 0],c]) (k:=2) (by simp) hc,Qaf];rfl
def Oo{i:Nat}{f0 f1 f2:FE}{r:aL}{a b c:List D}(h0:f0 r=.ok (.lst a))(h1:f1 r=.ok (.lst b))(h2:f2 r=.ok (.lst c)):pT i f0 f1 f2 r=some (r.set i none,[a,b,c]):=by unfold pT;rw[h0,h1,h2]
def QE{i l:Nat}{f0 f1:FE}{r:aL}{a b c:List D}(h0:f0 r=.ok (.lst a))(h1:f1 r=.ok (.lst b))(h2:r[l]? = some (some (.lst c))):qh i l f0 f1 r=some ((r.set l none).set i none,[a,b,c]):=by unfold qh;rw[h0,h1,h2]
def Qn(R:Rws rz n n)(hp:o.Perm (g_ n))(g:Hg (dealt rz n n o) o n n hs)(hh:xU [WD rz,LN o,nD n]=.ok (LN hs))(ns:D):JG [ns,WD rz,LN o,nD n]=.ok (pS [("Ordered",[("order",LN o)]),("Rising",[("heights",LN hs)]),("Parted",[("parts",dD (dealt rz n n o))])]):=by
 have h7:=R.n7;have hl:=hZ hp;have Z:=qx R hp;have hdn:=Z.dn;generalize hdl:dealt rz n n o=dl at *;have hd:=yF R false hp;replace hd:lK [WD rz,LN o]=.ok (TN dl):=by rw[<-hdl];exact hd
 refine cf (n:=9) ?_
 dsimp only[JA,Bt]
 refine(aU (cJ (aW (aF rfl (aF rfl aK)) hd))).trans ?_;have ho:kW (cg (aJ (gv 1) (aJ (gv 2) (aJ (gv 3) aH))) [] xU) [some ns,some (WD rz),some (LN o),some (nD n),some (TN dl),none,none,none,none]=.ok (LN hs):=by unfold kW;rw[aW (aF rfl (aF rfl (aF rfl aK))) hh];rfl
 have h2:(ig (aJ (cz (aJ (cz (aJ (ci 1) (aJ (ci 1) aH))) (aJ (gv 4) aH))) aH)) [some ns,some (WD rz),some (LN o),some (nD n),some (TN dl),none,none,none,none]=.ok (dD dl):=hX (aF (dB (aF (dB (aF rfl (aF rfl aK)) (by simp)) (aF rfl aK)) (by simp)) aK) (by simp);have hw:∀ds∈[o.map nD,hs.map nD,[pD dl]],∀d∈ds,Cln d:=fun ds z=>by
  simp only[e_,p_,or_false]at z;rcases z with rfl|rfl|rfl
  .exact tK
  .exact tK
  .intro d hd;rw[H_.mp hd];exact Mi dl
 refine(GG (r':=[some ns,some (WD rz),some (LN o),some (nD n),some (TN dl),none,none,none,none]) (w:=[o.map nD,hs.map nD,[pD dl]]) ?_).trans ?_
 .exact Oo (bU (aF rfl aK) (show ki [LN o]=some (LN o)from rfl)) ho h2
 refine(mv (GS (i:=5) (j:=6) rfl (by simp) hw)).trans ?_;have c1:=zE (l:=o) (by omega);have c2:=zE (l:=hs) (by rw[g.ln];omega);have c3:=Fl (dl:=dl) (by omega);have m1:∀r:aL,dO "Ordered" (aJ (eD [o.map nD,hs.map nD,[pD dl]] (ci 0)) aH) [] jq r=.ok (iD "Ordered" [("order",LN o)]):=fun r=>fN (ds:=[LN o]) (aF (oS (w:=[o.map nD,hs.map nD,[pD dl]]) (k:=0) (ds:=o.map nD) rfl) aK) (wB c1);have m2:∀r:aL,dO "Rising" (aJ (eD [o.map nD,hs.map nD,[pD dl]] (ci 1)) aH) [] iI r=.ok (iD "Rising" [("heights",LN hs)]):=fun r=>fN (ds:=[LN hs]) (aF (oS (w:=[o.map nD,hs.map nD,[pD dl]]) (k:=1) (ds:=hs.map nD) rfl) aK) (qJ c2);have m3:∀r:aL,dO "Parted" (aJ (eD [o.map nD,hs.map nD,[pD dl]] (ci 2)) aH) [] js r=.ok (iD "Parted" [("parts",dD dl)]):=fun r=>fN (ds:=[dD dl]) (aF (oS (w:=[o.map nD,hs.map nD,[pD dl]]) (k:=2) (ds:=[pD dl]) rfl) aK) (vS c3);refine(mv (r':=[some ns,some (WD rz),some (LN o),some (nD n),some (TN dl),none,some (.lst ([o.map nD,hs.map nD,[pD dl]].map D.lst)),some (pS [("Ordered",[("order",LN o)]),("Rising",[("heights",LN hs)]),("Parted",[("parts",dD dl)])]),none]) (w':=[o.map nD,hs.map nD,[pD dl]]) (Aa (cJ (hX (aF (m1 _) (aF (m2 _) (aF (m3 _) aK))) (by simp))))).trans ?_;obtain⟨w',U⟩:=Fu (jr:=8) (r:=[some ns,some (WD rz),some (LN o),some (nD n),some (TN dl),none,some (.lst ([o.map nD,hs.map nD,[pD dl]].map D.lst)),some (pS [("Ordered",[("order",LN o)]),("Rising",[("heights",LN hs)]),("Parted",[("parts",dD dl)])]),none]) (a:=o.map nD) (b:=hs.map nD) (c:=[pD dl]) (by simp;omega) (by rw[q_,g.ln];omega) (by simp);refine(mv U).trans ?_;have Y:Pl 60 (.lst [LN o,LN hs,dD dl]):=by
  show ∀d∈[LN o,LN hs,dD dl],Pl 59 d;intro d hd;simp only[e_,p_,or_false]at hd;rcases hd with rfl|rfl|rfl
  .exact kU 58
  .exact kU 58
  .intro e he;rw[H_.mp he];exact KP 55 dl
 have hq:neD (.lst [LN o,LN hs,dD dl]) (.lst [LN o,LN hs,dD dl])=some (.bl false):=by unfold neD;rw[Ao Y (.inl ⟨_,rfl⟩)];rfl
 have hL:(ig (aJ (f1 (f2 (gv 7) (ci 0) bP) (eJ jB "order")) (aJ (f1 (f2 (gv 7) (ci 1) bP) (eJ oY "heights")) (aJ (f1 (f2 (gv 7) (ci 2) bP) (eJ oM "parts")) aH)))) [some ns,some (WD rz),some (LN o),some (nD n),some (TN dl),some (.lst (w'.map D.lst)),some (.lst ([o.map nD,hs.map nD,[pD dl]].map D.lst)),some (pS [("Ordered",[("order",LN o)]),("Rising",[("heights",LN hs)]),("Parted",[("parts",dD dl)])]),none]=.ok (.lst [LN o,LN hs,dD dl]):=hX (aF (fJ (aT rfl rfl (kg rfl)) rfl) (aF (fJ (aT rfl rfl (kg rfl)) rfl) (aF (fJ (aT rfl rfl (kg rfl)) rfl) aK))) (by simp);unfold zF;refine(aU ((cp (eY (aT hL rfl hq))).trans (e_skip _))).trans ?_;exact aY (bV rfl)
def Hq{α:Type}(k:Nat){l:List α}{f g:α->Int}:∀d∈l.map (fun x=>D.tup [.int (f x),.int (g x)]),Pl (k+1) d:=fun d hd=>by obtain⟨x,_,rfl⟩:=V_.mp hd;intro e he;simp only[e_,p_,or_false]at he;rcases he with rfl|rfl <;> (cases k <;> trivial)
def Ij{α:Type}{l:List α}{f g:α->Int}:∀d∈l.map (fun x=>D.tup [.int (f x),.int (g x)]),Cln d:=fun d hd=>by obtain⟨x,_,rfl⟩:=V_.mp hd;exact sW _ _
def GO{α:Type}{l:List α}{f g:α->Int}(h:l.length<=1000):Cp 5 (.lst (l.map (fun x=>D.tup [.int (f x),.int (g x)]))):=⟨by simpa using h,fun d hd=>by obtain⟨x,_,rfl⟩:=V_.mp hd;refine⟨by simp,fun e he=>?_⟩;simp only[e_,p_,or_false]at he;rcases he with rfl|rfl <;> exact eU _ _⟩
def Sm(ns:List Int){n:Nat}(h1:1<=n)(h7:n<=7):Ko [IN ns,nD n]=.ok (.bl true):=by
 obtain⟨c,hc⟩:=pe ns 10 (by decide);obtain⟨ow,hp,hr⟩:=AS c n (by omega);have hl:=hZ hp;generalize hA:(g_ n).map (fun h=>D.tup [.int ((h:Nat):Int),.int ((dOf ow h:Nat):Int)])=wa;generalize hB:ow.map (fun t=>D.tup [.int 0,.int ((t:Nat):Int)])=wb;have la:wa.length<=900:=by rw[<-hA];simp;omega
 have lb:wb.length<=900:=by rw[<-hB];simp;omega
 refine cf (n:=8) ?_
 dsimp only[Kk,Do]
 refine(aU (cJ (bU (aF (aW (aF (aW (aF rfl (aF rfl aK)) hc) (aF rfl aK)) hr) aK) rfl))).trans ?_;have g0:(eR 1 [2] (fE eO (aJ (gv 1) aH)) (bY 0) (fun _=>Res.ok true) (cz (aJ (gv 0) (aJ (f2 (gv 1) (gv 0) bP) aH)))) [some (IN ns),some (nD n),some (LN ow),none,none,none,none,none]=.ok (.lst wa):=by
  have c:=gq (nl:=1) (cap:=[2]) (fi:=fE eO (aJ (gv 1) aH)) (ft:=bY 0) (fe:=cz (aJ (gv 0) (aJ (f2 (gv 1) (gv 0) bP) aH))) (r:=[some (IN ns),some (nD n),some (LN ow),none,none,none,none,none]) (l:=g_ n) nD (fun h=>D.tup [.int ((h:Nat):Int),.int ((dOf ow h:Nat):Int)]) (jj (aF rfl aK) (jh (by omega))) (by simp;omega) fun h hh=>⟨[some (nD h),some (LN ow)],rfl,dB (aF rfl (aF (aT rfl rfl (nB (by rw[hl];exact s_.mp hh))) aK)) (by simp)⟩
  rw[hA]at c;exact c
 have g1:(eR 1 [] (bS cZ (gv 2)) (bY 0) (fun _=>Res.ok true) (cz (aJ (ci 0) (aJ (gv 0) aH)))) [some (IN ns),some (nD n),some (LN ow),none,none,none,none,none]=.ok (.lst wb):=by
  have c:=gq (nl:=1) (cap:=[]) (fi:=bS cZ (gv 2)) (ft:=bY 0) (fe:=cz (aJ (ci 0) (aJ (gv 0) aH))) (r:=[some (IN ns),some (nD n),some (LN ow),none,none,none,none,none]) (l:=ow) nD (fun t=>D.tup [.int 0,.int ((t:Nat):Int)]) rfl (by omega) fun t _=>⟨[some (nD t)],rfl,dB (aF rfl (aF rfl aK)) (by simp)⟩
  rw[hB]at c;exact c
 refine(GG (r':=[some (IN ns),some (nD n),none,none,none,none,none,none]) (w:=[wa,wb,ow.map nD]) (QE g0 g1 rfl)).trans ?_;have ca:∀d∈wa,Cln d:=by rw[<-hA];exact Ij (f:=fun h:Nat=>(h:Int)) (g:=fun h=>((dOf ow h:Nat):Int))
 have cb:∀d∈wb,Cln d:=by rw[<-hB];exact Ij (f:=fun _:Nat=>0) (g:=fun t:Nat=>(t:Int))
 have pa:∀k,∀d∈wa,Pl (k+1) d:=fun k=>by rw[<-hA];exact Hq k (f:=fun h:Nat=>(h:Int)) (g:=fun h=>((dOf ow h:Nat):Int))
 have pb:∀k,∀d∈wb,Pl (k+1) d:=fun k=>by rw[<-hB];exact Hq k (f:=fun _:Nat=>0) (g:=fun t:Nat=>(t:Int))
 have qa:Cp 5 (.lst wa):=by rw[<-hA];exact GO (f:=fun h:Nat=>(h:Int)) (g:=fun h=>((dOf ow h:Nat):Int)) (by simp;omega)
 have qb:Cp 5 (.lst wb):=by rw[<-hB];exact GO (f:=fun _:Nat=>0) (g:=fun t:Nat=>(t:Int)) (by omega)
 have qp:Cp 5 (.tup [.int 1,.int 2]):=⟨by simp,fun e he=>by simp only[e_,p_,or_false]at he;rcases he with rfl|rfl <;> exact eU _ _⟩
 refine(mv (GS (i:=3) (j:=4) rfl (by simp) fun ds z=>?_)).trans ?_
 .simp only[e_,p_,or_false]at z;rcases z with rfl|rfl|rfl
  .exact ca
  .exact cb
  .exact tK
 have m1:∀r:aL,dO "Goes" (aJ (eD [wa,wb,ow.map nD] (ci 2)) (aJ (eD [wa,wb,ow.map nD] (ci 0)) aH)) [] j5 r=.ok (iD "Goes" [("owns",LN ow),("ring",.lst wa)]):=fun r=>fN (ds:=[LN ow,.lst wa]) (aF (oS (w:=[wa,wb,ow.map nD]) (k:=2) (ds:=ow.map nD) rfl) (aF (oS (w:=[wa,wb,ow.map nD]) (k:=0) (ds:=wa) rfl) aK)) (AN (zE (by omega)) qa);have m2:∀r:aL,dO "Handing" (aJ (eD [wa,wb,ow.map nD] (ci 1)) (aJ (cz (aJ (ci 1) (aJ (ci 2) aH))) aH)) [] iS r=.ok (iD "Handing" [("ring",.lst wb),("part",.tup [.int 1,.int 2])]):=fun r=>fN (ds:=[.lst wb,.tup [.int 1,.int 2]]) (aF (oS (w:=[wa,wb,ow.map nD]) (k:=1) (ds:=wb) rfl) (aF (dB (aF rfl (aF rfl aK)) (by simp)) aK)) (wA qb qp);refine(mv (r':=[some (IN ns),some (nD n),none,none,some (.lst ([wa,wb,ow.map nD].map D.lst)),some (iD "Goes" [("owns",LN ow),("ring",.lst wa)]),none,none]) (w':=[wa,wb,ow.map nD]) (Aa (cJ (m1 _)))).trans ?_;refine(mv (r':=[some (IN ns),some (nD n),none,none,some (.lst ([wa,wb,ow.map nD].map D.lst)),some (iD "Goes" [("owns",LN ow),("ring",.lst wa)]),some (iD "Handing" [("ring",.lst wb),("part",.tup [.int 1,.int 2])]),none]) (w':=[wa,wb,ow.map nD]) (Aa (cJ (m2 _)))).trans ?_;obtain⟨w',U⟩:=Fu (jr:=7) (r:=[some (IN ns),some (nD n),none,none,some (.lst ([wa,wb,ow.map nD].map D.lst)),some (iD "Goes" [("owns",LN ow),("ring",.lst wa)]),some (iD "Handing" [("ring",.lst wb),("part",.tup [.int 1,.int 2])]),none]) (a:=wa) (b:=wb) (c:=ow.map nD) la lb (by simp;omega);refine(mv U).trans ?_;have hq:eqD (.lst [.lst wa,.lst wb,LN ow]) (.lst [.lst wa,.lst wb,LN ow])=some (.bl true):=by
  unfold eqD;rw[Ao (show Pl 60 (.lst [.lst wa,.lst wb,LN ow])from by
   show ∀d∈[D.lst wa,.lst wb,LN ow],Pl 59 d;intro d hd;simp only[e_,p_,or_false]at hd;rcases hd with rfl|rfl|rfl
   .exact pa 57
   .exact pb 57
   .exact kU 58) (.inl ⟨_,rfl⟩)];rfl
 have Y:eqD (.tup [.int 1,.int 2]) (.tup [.int 1,.int 2])=some (.bl true):=by unfold eqD;rw[Ao (show Pl 60 (.tup [.int 1,.int 2])from by show ∀d∈[D.int 1,.int 2],Pl 59 d;intro d hd;simp only[e_,p_,or_false]at hd;rcases hd with rfl|rfl <;> trivial) (.inr ⟨_,rfl⟩)];rfl
 unfold zF;refine aY (bV ?_);have hL:(ig (aJ (f1 (gv 5) (eJ kr "ring")) (aJ (f1 (gv 6) (eJ kr "ring")) (aJ (f1 (gv 5) (eJ oF "owns")) aH)))) [some (IN ns),some (nD n),none,some (.lst (w'.map D.lst)),some (.lst ([wa,wb,ow.map nD].map D.lst)),some (iD "Goes" [("owns",LN ow),("ring",.lst wa)]),some (iD "Handing" [("ring",.lst wb),("part",.tup [.int 1,.int 2])]),none]=.ok (.lst [.lst wa,.lst wb,LN ow]):=hX (aF (fJ rfl rfl) (aF (fJ rfl rfl) (aF (fJ rfl rfl) aK))) (by simp);refine(eV (aT hL rfl hq)).trans ?_;exact aT (fJ rfl rfl) (dB (aF rfl (aF rfl aK)) (by simp)) Y
def Nt{m:List Md}{i:Nat}{f fb fc:FE}{r:aL}{v1 v2 d k1 d1 k2 d2:D}(h0:f r=.ok (.tup [v1,v2]))(h1:r[i]? = some (some d))(h2:fb r=.ok k1)(h3:dS d k1 v1=some d1)(h4:fc (r.set i (some d1))=.ok k2)(h5:dS d1 k2 v2=some d2):kK m i f fb fc r=.nx ((r.set i (some d1)).set i (some d2)):=by unfold kK;rw[h0,onE_ok];simp only[h1];rw[h2,onE_ok];simp only[h3];rw[h4,onE_ok];simp only[h5]
def sA{l:List Nat}{i x:Nat}(h:i<l.length):dS (LN l) (nD i) (nD x)=some (LN (l.set i x)):=by rw[AD (by rw[q_];exact h)];show some (D.lst _)=some (D.lst ((l.set i x).map nD));rw[QdJ]
abbrev sJ(rz:List (List Nat))(dl:List Nat)(n:Nat)(l:aL):aL:=some (WD rz)::some (TN dl)::some (nD n)::l
structure Wo(rz:List (List Nat))(dl:List Nat)(n i j:Nat):Prop where
 i1:i<n
 j1:j<n
 a:Rg.lk (Wr rz) i (dOf dl i) (dOf dl j)
 b:Rg.lk (Wr rz) j (dOf dl j) (dOf dl i)
abbrev sw(dl:List Nat)(i j:Nat):List Nat:=(dl.set i (dOf dl j)).set j (dOf dl i)
abbrev j6(dl:List Nat)(i j:Nat):D:=.tup [TN (sw dl i j),wz true (c6 [i,j]) none]
section
variable{i j:Nat}
def wo_it(Z:Dl rz dl n m)(hi:i<n)(hj:j<n)(y5 y6:Option D):(∃z5 z6,rV (sJ rz dl n [some (nD i),some (nD j),y5,y6])=.nx (sJ rz dl n [some (nD i),some (nD j),z5,z6]))\/(Wo rz dl n i j/\rV (sJ rz dl n [some (nD i),some (nD j),y5,y6])=.rt (j6 dl i j)):=by
 have U:=Z.dlt hi;have z:=Z.dlt hj;have hdn:=Z.dn;have e5:=cJ (m:=gH) (i:=5) (r:=(sJ rz dl n [some (nD i),some (nD j),y5,y6])) (d:=.lst [TN (Wr rz i),TN (Wr rz j)]) (hX (aF (f:=f2 (gv 0) (gv 3) bP) (aT rfl rfl (Z.rw' hi)) (aF (f:=f2 (gv 0) (gv 4) bP) (aT rfl rfl (Z.rw' hj)) aK)) (by simp));have ix:∀{k h x:Nat},h<n->x<m->∀{fo fx:FE},fo (sJ rz dl n [some (nD i),some (nD j),some (.lst [TN (Wr rz i),TN (Wr rz j)]),y6])=.ok (TN (Wr rz h))->fx (sJ rz dl n [some (nD i),some (nD j),some (.lst [TN (Wr rz i),TN (Wr rz j)]),y6])=.ok (nD x)->fM "tuple" fo (aJ fx aH) mw (sJ rz dl n [some (nD i),some (nD j),some (.lst [TN (Wr rz i),TN (Wr rz j)]),y6])=.ok (nD ((Wr rz h).idxOf x)):=fun hh hx _ _ q1 q2=>zG q1 rfl (aF q2 aK) (Bl (Z.R.has hh hx));have x0:f2 (gv 5) (ci 0) bP (sJ rz dl n [some (nD i),some (nD j),some (.lst [TN (Wr rz i),TN (Wr rz j)]),y6])=.ok (TN (Wr rz i)):=aT rfl rfl (kg rfl);have x1:f2 (gv 5) (ci 1) bP (sJ rz dl n [some (nD i),some (nD j),some (.lst [TN (Wr rz i),TN (Wr rz j)]),y6])=.ok (TN (Wr rz j)):=aT rfl rfl (kg rfl);have di:f2 (gv 1) (gv 3) bP (sJ rz dl n [some (nD i),some (nD j),some (.lst [TN (Wr rz i),TN (Wr rz j)]),y6])=.ok (nD (dOf dl i)):=aT rfl rfl (Z.at hi);have dj:f2 (gv 1) (gv 4) bP (sJ rz dl n [some (nD i),some (nD j),some (.lst [TN (Wr rz i),TN (Wr rz j)]),y6])=.ok (nD (dOf dl j)):=aT rfl rfl (Z.at hj);have t1:=eY (aT (ix (k:=0) hi U x0 di) (ix (k:=0) hi z x0 dj) (t8 _ _));have t2:=eY (aT (ix (k:=0) hj z x1 dj) (ix (k:=0) hj U x1 di) (t8 _ _));by_cases c1:(Wr rz i).idxOf (dOf dl i)<(Wr rz i).idxOf (dOf dl j)
 .rw[decide_eq_true c1]at t1;by_cases c2:(Wr rz j).idxOf (dOf dl j)<(Wr rz j).idxOf (dOf dl i)
  .rw[decide_eq_true c2]at t2;refine .inr ⟨⟨hi,hj,c1,c2⟩,?_⟩;refine(aU e5).trans (aY ((cO t1).trans (aY ((cO t2).trans ?_))));refine(aU (cJ (bU (aF rfl aK) rfl))).trans ?_;refine(aU (Nt (v1:=nD (dOf dl j)) (v2:=nD (dOf dl i)) (d:=LN dl) (k1:=nD i) (d1:=LN (dl.set i (dOf dl j))) (k2:=nD j) (d2:=LN (sw dl i j)) (dB (aF (aT rfl rfl (Z.at hj)) (aF (aT rfl rfl (Z.at hi)) aK)) (by simp)) rfl rfl (sA (by omega)) rfl (sA (by rw[ZO];omega)))).trans ?_;refine aY (bV (dB (ds:=[TN (sw dl i j),wz true (c6 [i,j]) none]) (aF (bU (aF rfl aK) (e_tupL _)) (aF (d:=wz true (c6 [i,j]) none) (dB (ds:=[.str "ring",TN [i,j]]) (aF rfl (aF (dB (ds:=[nD i,nD j]) (aF rfl (aF rfl aK)) (by simp)) aK)) (by simp)) aK)) (by simp)))
  .rw[decide_eq_false c2]at t2;exact .inl ⟨_,_,(aU e5).trans ((aU ((cO t1).trans ((aU ((cp t2).trans (e_skip _))).trans (e_skip _)))).trans (e_skip _))⟩
 .rw[decide_eq_false c1]at t1;exact .inl ⟨_,_,(aU e5).trans ((aU ((cp t1).trans (e_skip _))).trans (e_skip _))⟩
def wo_0(Z:Dl rz dl n m)(hi:i<n):∀(l:List Nat)(y4 y5 y6:Option D),(∀x∈l,x<n) ->(∃z4 z5 z6,bG (bY 4) rV (l.map nD) (sJ rz dl n [some (nD i),y4,y5,y6])=.nx (sJ rz dl n [some (nD i),z4,z5,z6]))\/(∃j,Wo rz dl n i j/\bG (bY 4) rV (l.map nD) (sJ rz dl n [some (nD i),y4,y5,y6])=.rt (j6 dl i j))
|[],y4,y5,y6,_=>.inl ⟨y4,y5,y6,ia⟩
|x::l,y4,y5,y6,h=>by
  rcases wo_it Z hi (h x r_) y5 y6 with⟨z5,z6,e⟩|⟨w,e⟩
  .rcases wo_0 Z hi l (some (nD x)) z5 z6 fun z hz=>h z (m_ _ hz)with⟨u4,u5,u6,q⟩|⟨j,w,q⟩
   .exact .inl ⟨u4,u5,u6,(gD rfl e).trans q⟩
   .exact .inr ⟨j,w,(gD rfl e).trans q⟩
  .exact .inr ⟨x,w,oq rfl e⟩
def wo_1(Z:Dl rz dl n m):∀(l:List Nat)(y3 y4 y5 y6:Option D),(∀x∈l,x<n) ->(∃z3 z4 z5 z6,bG (bY 3) Kc (l.map nD) (sJ rz dl n [y3,y4,y5,y6])=.nx (sJ rz dl n [z3,z4,z5,z6]))\/(∃i j,Wo rz dl n i j/\bG (bY 3) Kc (l.map nD) (sJ rz dl n [y3,y4,y5,y6])=.rt (j6 dl i j))
|[],y3,y4,y5,y6,_=>.inl ⟨y3,y4,y5,y6,ia⟩
|x::l,y3,y4,y5,y6,h=>by
  have hn:=Z.R.n7;have rg:=jj (fl:=aJ (gv 2) aH) (r:=(sJ rz dl n [some (nD x),y4,y5,y6])) (aF rfl aK) (jh (show n<=1000 by omega));rcases wo_0 Z (h x r_) (g_ n) y4 y5 y6 (fun z hz=>s_.mp hz)with⟨z4,z5,z6,e⟩|⟨j,w,e⟩
  .rcases wo_1 Z l (some (nD x)) z4 z5 z6 fun z hz=>h z (m_ _ hz)with⟨u3,u4,u5,u6,q⟩|⟨i,j,w,q⟩
   .exact .inl ⟨u3,u4,u5,u6,(gD rfl ((aU ((fV rg).trans e)).trans (e_skip _))).trans q⟩
   .exact .inr ⟨i,j,w,(gD rfl ((aU ((fV rg).trans e)).trans (e_skip _))).trans q⟩
  .exact .inr ⟨x,j,w,oq rfl (aY ((fV rg).trans e))⟩
def Sg(Z:Dl rz dl n m):wT [WD rz,TN dl,nD n]=.ok .non\/∃i j,Wo rz dl n i j/\wT [WD rz,TN dl,nD n]=.ok (j6 dl i j):=by
 have hn:=Z.R.n7;have rg:=jj (fl:=aJ (gv 2) aH) (r:=(sJ rz dl n [none,none,none,none])) (aF rfl aK) (jh (show n<=1000 by omega));rcases wo_1 Z (g_ n) none none none none (fun z hz=>s_.mp hz)with⟨z3,z4,z5,z6,e⟩|⟨i,j,w,e⟩
 .left;refine cf (n:=7) ?_
  dsimp only[C2,wJ]
  exact(aU ((fV rg).trans e)).trans (aY (bV rfl))
 .right;refine⟨i,j,w,cf (n:=7) ?_⟩
  dsimp only[C2,wJ]
  exact aY ((fV rg).trans e)
def O8{l:List Nat}(h:l.Perm (g_ n))(hi:i<n)(hj:j<n):(sw l i j).Perm (g_ n):=by
 have z:i<l.length:=by rw[hZ h];exact hi
 have hjl:j<l.length:=by rw[hZ h];exact hj
 unfold sw;rw[lw (o_ z),lw (o_ hjl)];exact(List.set_set_perm z hjl).trans h
def FF(w:Wo rz dl n i j):i≠j:=by
 rintro rfl
 exact absurd w.a (Zw _)
def Em(hd:dl.length=n)(w:Wo rz dl n i j):dOf (sw dl i j) i=dOf dl j/\dOf (sw dl i j) j=dOf dl i:=by
 have h1:=w.i1;have h2:=w.j1;constructor
 .refine lw ?_;rw[b_ (ZP (FF w)),j_ (by omega)]
 .refine lw ?_;rw[j_ (by rw[ZO];omega)]
def E2(Z:Dl rz dl n n)(w:Wo rz dl n i j):Dl rz (sw dl i j) n n:=by have p:=O8 (uY Z) w.i1 w.j1;exact⟨Z.R,hZ p,p.nodup_iff.mpr Zn,fun x hx=>s_.mp (p.mem_iff.mp hx)⟩
def NC(Z:Dl rz dl n n)(w:Wo rz dl n i j):lJ [WD rz,TN (sw dl i j),wz true (c6 [i,j]) none]=.ok (.bl true)/\lJ [WD rz,TN dl,wz true (c6 [i,j]) none]=.ok (.bl false):=by
 have U : [i,j].Nodup:=by simp[FF w]
 have Y:∀h∈[i,j],h<n:=fun h hh=>by
  simp only[e_,p_,or_false]at hh;rcases hh with rfl|rfl
  .exact w.i1
  .exact w.j1
 have s:=Em Z.dn w;constructor
 .have e:=Gb (E2 Z w) true (ks:=[i,j]) (o:=none) (by simp) (by simp) U Y (fun x hx=>by cases hx);refine e.trans ?_;have:(([i,j].zip ((gG [i,j] none).things (sw dl i j))).all (jL rz (sw dl i j)))=true:=by show(jL rz (sw dl i j) (i,dOf (sw dl i j) j)&&(jL rz (sw dl i j) (j,dOf (sw dl i j) i)&&true))=true;unfold jL;rw[s.1,s.2,decide_eq_true w.a,decide_eq_true w.b];rfl
  rw[this]
 .have e:=Gb Z true (ks:=[i,j]) (o:=none) (by simp) (by simp) U Y (fun x hx=>by cases hx);refine e.trans ?_;have:(([i,j].zip ((gG [i,j] none).things dl)).all (jL rz dl))=false:=by show(jL rz dl (i,dOf dl j)&&(jL rz dl (j,dOf dl i)&&true))=false;unfold jL;rw[decide_eq_false (show ¬ Rg.lk (Wr rz) i (dOf dl j) (dOf dl i)from fun z=>absurd w.a (Nat.lt_asymm z))];rfl
  rw[this]
end
def AJ{d:D}{n:Nat}(h1:1<=n)(h:n<=1000):kj (.tup [d]) (nD n)=some (.tup (d_ n d)):=by
 have hs : [d].length*((n:Nat):Int).toNat<=sizeLine:=by rw[J_];simp;omega
 show(if _ then some (D.tup (d_ ((n:Nat):Int).toNat [d]).flatten)else none)=_;rw[if_pos ⟨by omega,by omega,by simp,hs⟩,Zy,Qbr]
def NL(ds:List D)(j:Int):jF (.lst ds) (.int j)=if-(2^62)<=j/\j<2^62/\ds.length*j.toNat<=sizeLine then some (.lst ((d_ j.toNat ds).flatten))else none:=rfl
def Qy(j:Int):oa [.int j]=if-(2^62)<=j/\j<2^62/\j.toNat<=sizeLine then some (.tup (eG 0 j.toNat))else none:=rfl
def KW{d:D}{n:Nat}(h:n<=1000):jF (.lst [d]) (nD n)=some (.lst (d_ n d)):=by
 have hs : [d].length*((n:Nat):Int).toNat<=sizeLine:=by rw[J_];simp;omega
 rw[NL,if_pos ⟨by omega,by omega,hs⟩,Zy,Qbr]
def HI{n:Nat}(h:n<=1000):oa [nD n]=some (TN (g_ n)):=by
 have hs:((n:Nat):Int).toNat<=sizeLine:=by rw[J_];simp;omega
 rw[Qy,if_pos ⟨by omega,by omega,hs⟩,Zy,AK]
def i6(k:Nat):Cp (k+1) (.tup []):=⟨by simp,fun e he=>by cases he⟩
def fF{k:Nat}{a b:D}(h1:Cp k a)(h2:Cp k b):Cp (k+1) (.tup [a,b]):=⟨by simp,fun e he=>by
 simp only[e_,p_,or_false]at he;rcases he with rfl|rfl
 .exact h1
 .exact h2⟩
def EO{k:Nat}{a:D}(h1:Cp k a):Cp (k+1) (.tup [a]):=⟨by simp,fun e he=>by rw[H_.mp he];exact h1⟩
def LI{k:Nat}{a:D}(h1:Cp k a):Cp (k+1) (.lst [a]):=⟨by simp,fun e he=>by rw[H_.mp he];exact h1⟩
def tM(k:Nat){n:Nat}(x:Int)(h:n<=1000):Cp (k+1) (.tup (d_ n (.int x))):=⟨by simpa using h,fun e he=>by rw[Qcm he];exact eU _ _⟩
def LK(k:Nat){n:Nat}(x:Int)(h:n<=1000):Cp (k+1) (.lst (d_ n (.int x))):=⟨by simpa using h,fun e he=>by rw[Qcm he];exact eU _ _⟩
def Fk(k:Nat){l:List Nat}(h:l.length<=1000):Cp (k+1) (TN l):=⟨by simpa using h,nH k⟩
def HY{rz:List (List Nat)}{told:D}{b:Bool}{q:Str×List (Str×D)}{fo:FE}{fl:aL->Res (List D)}{r:aL}(p:Sy rz told b q)(h1:fo r=.ok (iD q.1 q.2))(h2:fl r=.ok [WD rz,told]):pR ky "shows" fo fl kz r=.ok (.bl b):=by unfold pR;rw[h1,bind_ok];show(if ky q.1=true/\q.2.lookup ("shows" : Str)=none then(fl r).bind _ else .stuck)=_;rw[if_pos ⟨p.hit,p.lk⟩,h2,bind_ok];show lN (kz [iD q.1 q.2,WD rz,told])=_;rw[p.sh];rfl
abbrev sK(ns:List Int)(n m:Nat)(rz:List (List Nat))(dl:List Nat)(l:aL):aL:=some (IN ns)::some (nD n)::some (nD m)::some (WD rz)::some (TN dl)::some (cE dl m)::l
def Sf(ns:List Int){n:Nat}(h1:1<=n)(h6:n<=6):Kp [IN ns,nD n]=.ok (.bl true):=by
 obtain⟨c,hc⟩:=pe ns 11 (by decide);have Y:n<n+1+c%2:=by omega
 have U:n+1+c%2<=8:=by omega
 have em:f2 (f2 (gv 1) (ci 1) addA) (f2 (cg (aJ (gv 0) (aJ (ci 11) aH)) [] j4) (ci 2) dm) addA [some (IN ns),some (nD n),none,none,none,none,none,none]=.ok (nD (n+1+c%2)):=aT (aT rfl rfl (lu n 1)) (aT (aW (aF rfl (aF rfl aK)) hc) rfl (qg (by decide))) (lu _ _);generalize n+1+c%2=m at *;obtain⟨rz,q1,q2,hw⟩:=JK ns 3 n m (by decide) (by omega) (by omega);have R:Rws rz n m:=⟨h1,by omega,by omega,U,q1,q2⟩
 have Z:=qx R (QcV (g_ n));have z:=yF R false (QcV (g_ n));replace z:lK [WD rz,LN (g_ n)]=.ok (TN (dealt rz n m (g_ n))):=z;have S1:=Gw Z true (QcV (g_ n)) rfl;generalize dealt rz n m (g_ n)=dl at *;have hdn:=Z.dn;have S2:=uW (k:=m) R hdn (WL true (g_ n));have tb:∀told:D,iT [WD rz,told]=.ok (.bl false):=Pb R Y;refine cf (n:=8) ?_
 dsimp only[Kl,Dp]
 refine(aU (cJ em)).trans ?_;refine(aU (cJ (aW (aF rfl (aF rfl (aF rfl (aF rfl aK)))) hw))).trans ?_;refine(aU (cJ (aW (aF rfl (aF (d:=LN (g_ n)) (bU (aF rfl aK) (qw (by omega))) aK)) z))).trans ?_;refine(aU (cJ (aW (aF rfl (aF rfl aK)) (BI (by omega) (by omega))))).trans ?_;show seqF _ _ (sK ns n m rz dl [none,none])=_;have m1:dO "Rising" (aJ (f2 (cz (aJ (ci 0) aH)) (gv 2) kj) aH) [] iI (sK ns n m rz dl [none,none])=.ok (iD "Rising" [("heights",.tup (d_ m (.int 0)))]):=fN (ds:=[.tup (d_ m (.int 0))]) (aF (aT (dB (aF rfl aK) (by simp)) rfl (AJ (by omega) (by omega))) aK) (qJ (tM 4 0 (by omega)));have m2:dO "Rising" (aJ (fC (aJ (gv 1) aH) oa) aH) [] iI (sK ns n m rz dl [none,none])=.ok (iD "Rising" [("heights",TN (g_ n))]):=fN (ds:=[TN (g_ n)]) (aF (bU (aF rfl aK) (HI (by omega))) aK) (qJ (Fk 4 (by simp;omega)));have m3:dO "Parted" (aJ (ig (aJ (cz (aJ (cz (aJ (ci 1) (aJ (ci 1) aH))) (aJ (gv 4) aH))) aH)) aH) [] js (sK ns n m rz dl [none,none])=.ok (iD "Parted" [("parts",dD dl)]):=fN (ds:=[dD dl]) (aF (hX (aF (dB (aF (dB (aF rfl (aF rfl aK)) (by simp)) (aF rfl aK)) (by simp)) aK) (by simp)) aK) (vS (Fl (by omega)));refine(aU (cJ (hX (aF m1 (aF m2 (aF m3 aK))) (by simp)))).trans ?_;show seqF _ _ (sK ns n m rz dl [some (pS [("Rising",[("heights",.tup (d_ m (.int 0)))]),("Rising",[("heights",TN (g_ n))]),("Parted",[("parts",dD dl)])]),none])=_;have a0:∀y:Option D,f2 (gv 4) (ci 0) bP (sK ns n m rz dl [y,none])=.ok (nD (dOf dl 0)):=fun y=>aT (a:=TN dl) (b:=nD 0) rfl rfl (Z.at (by omega));have m4:∀y:Option D,dO "Handing" (aJ (cz (aJ (cz (aJ (ci 0) (aJ (f2 (gv 4) (ci 0) bP) aH))) (aJ (cz (aJ (ci 0) (aJ (f2 (f2 (f2 (gv 4) (ci 0) bP) (ci 1) addA) (gv 2) dm) aH))) aH))) (aJ (cz (aJ (ci 1) (aJ (ci 2) aH))) aH)) [] iS (sK ns n m rz dl [y,none])=.ok (iD "Handing" [("ring",.tup [.tup [nD 0,nD (dOf dl 0)],.tup [nD 0,nD ((dOf dl 0+1)%m)]]),("part",.tup [nD 1,nD 2])]):=fun y=>fN (ds:=[.tup [.tup [nD 0,nD (dOf dl 0)],.tup [nD 0,nD ((dOf dl 0+1)%m)]],.tup [nD 1,nD 2]]) (aF (dB (aF (dB (aF rfl (aF (a0 y) aK)) (by simp)) (aF (dB (aF rfl (aF (aT (aT (a0 y) rfl (lu _ 1)) rfl (qg (by omega))) aK)) (by simp)) aK)) (by simp)) (aF (dB (aF rfl (aF rfl aK)) (by simp)) aK)) (wA (fF (fF (eU _ _) (eU _ _)) (fF (eU _ _) (eU _ _))) (fF (eU _ _) (eU _ _)));refine(aU (ma (d:=pS [("Rising",[("heights",.tup (d_ m (.int 0)))]),("Rising",[("heights",TN (g_ n))]),("Parted",[("parts",dD dl)])]) rfl rfl (aF (m4 _) aK) (vG (by simp)))).trans ?_;generalize hH:(.tup [.tup [nD 0,nD (dOf dl 0)],.tup [nD 0,nD ((dOf dl 0+1)%m)]]:D)=ra;show seqF _ _ (sK ns n m rz dl [some (pS [("Rising",[("heights",.tup (d_ m (.int 0)))]),("Rising",[("heights",TN (g_ n))]),("Parted",[("parts",dD dl)]),("Handing",[("ring",ra),("part",.tup [nD 1,nD 2])])]),none])=_;have sy:∀told:D,∀q∈[(("Rising" : Str),[(("heights" : Str),D.tup (d_ m (.int 0)))]),("Rising",[("heights",TN (g_ n))]),("Parted",[("parts",dD dl)]),("Handing",[("ring",ra),("part",.tup [nD 1,nD 2])])],Sy rz told false q:=fun told q hq=>by
  simp only[e_,p_,or_false]at hq;rcases hq with rfl|rfl|rfl|rfl
  .exact qt (tb told)
  .exact qt (tb told)
  .exact uX (tb told)
  .exact Bc (tb told)
 refine(aU ((cp ?_).trans (e_skip _))).trans ?_
 .refine(dE (dL (b:=true) (dc (d:=.bl true) (aW (aF rfl (aF rfl (aF rfl (aF rfl aK)))) (kO (sy (TN dl)))) rfl))).trans ?_;exact dL (b:=true) (dc (d:=.bl true) (aW (aF rfl (aF rfl (aF rfl (aF rfl aK)))) (kO (sy (cE dl m)))) rfl)
 have m7:∀y:Option D,dO "Ordered" (aJ (fC (aJ (gv 1) aH) oa) aH) [] jq (sK ns n m rz dl [y,none])=.ok (iD "Ordered" [("order",TN (g_ n))]):=fun y=>fN (ds:=[TN (g_ n)]) (aF (bU (aF rfl aK) (HI (by omega))) aK) (wB (Fk 4 (by simp;omega)));refine(aU (cJ (m7 _))).trans ?_;refine aY (bV ((eV (aT (HY S1 rfl (aF rfl (aF rfl aK))) rfl rfl)).trans ?_));exact aT (HY S2 rfl (aF rfl (aF rfl aK))) rfl rfl
def GY{a b:List (Str×List (Str×D))}(h:a.length+b.length<=1000):addA (pS a) (pS b)=some (pS (a++b)):=by show(if (a.map fun q=>iD q.1 q.2).length+(b.map fun q=>iD q.1 q.2).length<=sizeLine then some (D.lst ((a.map fun q=>iD q.1 q.2)++(b.map fun q=>iD q.1 q.2)))else none)=_;rw[if_pos (by rw[J_];simp;omega),<-Q_]
def GK{n:Nat}(h:1<=n):¬ Og n []:=fun⟨o,e,p⟩=>by cases o with
|nil=>have:=hZ p;simp at this;omega
|cons a t=>cases e
abbrev eP0:List (Str×List (Str×D)):=[("Goes",[("owns",.tup []),("ring",.tup [])]),("Ordered",[("order",.tup [])]),("Betters",[("way",wz true [] none)]),("Betters",[("way",wz true [] (some 0))])]
abbrev pJ(n:Nat)(x:Int):List (Str×List (Str×D)):=[("Goes",[("owns",.tup (d_ n (.int x))),("ring",.tup [.tup [.int x,.int x]])]),("Ordered",[("order",.lst (d_ n (.int x)))]),("Betters",[("way",wz true [0] (some x))])]
abbrev oP0(n:Nat)(x:Int):List (Str×List (Str×D)):=[("Rising",[("heights",.tup [])]),("Handing",[("ring",.tup []),("part",.tup [.int 1,.int 1])]),("Parted",[("parts",.tup [])]),("Rising",[("heights",.tup (d_ n (.int (-x))))]),("Handing",[("ring",.tup [.tup [.int 0,.int x],.tup [.int x,.int 0]]),("part",.tup [.int 1,.int x])])]
abbrev nz(n:Nat)(x:Int):Str×List (Str×D):=("Parted",[("parts",.lst [.tup [fb true,.tup (d_ n (.int x))]])])
def AM(n:Nat)(x:Int):(d_ n x).map D.int=d_ n (.int x):=List.map_replicate
def Ek(Z:Dl rz dl n n){x:Int}(hx:(n:Int)<=x):∀q∈eP0++pJ n x,Sy rz (TN dl) false q/\Sy rz (cE dl n) false q:=fun q hq=>by
 have h7:=Z.R.n7;have h1:=Z.R.n1;have fo:¬ Og n (d_ n x):=F5 ⟨x,Qdm.mpr ⟨by omega,rfl⟩,hx⟩;have g0:iH [.tup [],nD n]=.ok (.bl false):=zJ true (hs:=[]) (by simp) (GK h1);have g1:iH [.tup (d_ n (.int x)),nD n]=.ok (.bl false):=by have:=zJ true (by simp;omega) fo;rw[show WI true (d_ n x)=.tup (d_ n (.int x))from congrArg D.tup (AM n x)]at this;exact this
 have s6:=HZ Z false (by simp;omega) fo;rw[show WI false (d_ n x)=.lst (d_ n (.int x))from congrArg D.lst (AM n x)]at s6;simp only[eP0,pJ,QdV,Qa7,e_,p_,or_false]at hq;rcases hq with rfl|rfl|rfl|rfl|rfl|rfl|rfl
 .exact⟨uV Z.R g0,uV Z.R g0⟩
 .exact⟨HZ Z true (xs:=[]) (by simp) (GK h1),uW Z.R Z.dn _⟩
 .exact⟨pZ Z (Gc Z true (hs:=[]) (by simp) none fun h=>h.1 rfl),uU Z.R Z.dn _⟩
 .exact⟨pZ Z (Gc Z true (hs:=[]) (by simp) (some 0) fun h=>h.1 rfl),uU Z.R Z.dn _⟩
 .exact⟨uV Z.R g1,uV Z.R g1⟩
 .exact⟨s6,uW Z.R Z.dn _⟩
 .refine⟨pZ Z (EB Z true (hs:=[0]) (by simp) ⟨by simp,F8 (ks:=[0]) (by simp) fun k hk=>by rw[H_.mp hk];omega⟩ ?_),uU Z.R Z.dn _⟩
  rintro⟨k,rfl,q1,_⟩
  omega
def Ej(Z:Dl rz dl n n){x:Int}(hx:(n:Int)<=x):∀q∈oP0 n x++[nz n x],Sy rz (TN dl) false q/\Sy rz (cE dl n) false q:=fun q hq=>by
 have h7:=Z.R.n7;have h1:=Z.R.n1;have td:=HG Z.R Z.dn;have tt:=Bd Z.R (uY Z);have fo:¬ Og n (d_ n x):=F5 ⟨x,Qdm.mpr ⟨by omega,rfl⟩,hx⟩;have g1:iH [.tup (d_ n (.int x)),nD n]=.ok (.bl false):=by have:=zJ true (by simp;omega) fo;rw[show WI true (d_ n x)=.tup (d_ n (.int x))from congrArg D.tup (AM n x)]at this;exact this
 simp only[oP0,nz,QdV,Qa7,e_,p_,or_false]at hq;rcases hq with rfl|rfl|rfl|rfl|rfl|rfl
 .exact⟨qt td,Az tt (Tp Z.dn (by simp;omega))⟩
 .exact⟨Bc td,Gv tt (NM _)⟩
 .exact⟨uX td,Ia Z.dn tt PK⟩
 .exact⟨qt td,Az tt (Tq Z.dn h1 (by omega) (by omega))⟩
 .exact⟨Bc td,Gv tt (Qi Z.dn hx)⟩
 .exact⟨uX td,Ia Z.dn tt (PL g1 h1 (by omega))⟩
def turn{P P1 P2 E O:List (Str×List (Str×D))}{td:D}(l1:kL (pS P) none (some 1)=some (pS P1))(l2:kL (pS P) (some 1) none=some (pS P2))(a1:∀q∈P1,Sy rz (TN dl) true q)(a2:∀q∈P2,Sy rz td true q)(b1:∀q∈P1,Sy rz td false q)(b2:∀q∈P2,Sy rz (TN dl) false q)(c:E.length+O.length<=1000)(c1:∀q∈E++O,Sy rz (TN dl) false q)(c2:∀q∈E++O,Sy rz td false q)(d0 d1 d3 d7 d8 y y':Option D):OX [d0,d1,some (WD rz),d3,some (TN dl),some td,some (pS P),d7,d8,some (pS E),some (pS O),y,y']=.nx [d0,d1,some (WD rz),d3,some (TN dl),some td,some (pS P),d7,d8,some (pS E),some (pS O),y,y']:=by have k:∀{f fa fd:FE}{Q:List (Str×List (Str×D))}{t:D}{b:Bool},f [d0,d1,some (WD rz),d3,some (TN dl),some td,some (pS P),d7,d8,some (pS E),some (pS O),y,y']=.ok (pS Q)->fa [d0,d1,some (WD rz),d3,some (TN dl),some td,some (pS P),d7,d8,some (pS E),some (pS O),y,y']=.ok t->fd [d0,d1,some (WD rz),d3,some (TN dl),some td,some (pS P),d7,d8,some (pS E),some (pS O),y,y']=.ok (.bl b)->(∀q∈Q,Sy rz t b q)->dG (cW (cg (aJ f (aJ (gv 2) (aJ fa (aJ fd aH)))) [] jC)) [d0,d1,some (WD rz),d3,some (TN dl),some td,some (pS P),d7,d8,some (pS E),some (pS O),y,y']=.ok false:=fun q1 q2 q3 q=>dL (b:=true) (dc (d:=.bl true) (aW (aF q1 (aF rfl (aF q2 (aF q3 aK)))) (kO q)) rfl);have s1:gb (gv 6) (fun _=>Res.ok none) (km (ci 1)) [d0,d1,some (WD rz),d3,some (TN dl),some td,some (pS P),d7,d8,some (pS E),some (pS O),y,y']=.ok (pS P1):=oJ rfl rfl (oR (i:=1) rfl) l1;have s2:gb (gv 6) (km (ci 1)) (fun _=>Res.ok none) [d0,d1,some (WD rz),d3,some (TN dl),some td,some (pS P),d7,d8,some (pS E),some (pS O),y,y']=.ok (pS P2):=oJ rfl (oR (i:=1) rfl) rfl l2;have s3:f2 (gv 9) (gv 10) addA [d0,d1,some (WD rz),d3,some (TN dl),some td,some (pS P),d7,d8,some (pS E),some (pS O),y,y']=.ok (pS (E++O)):=aT rfl rfl (GY c);refine(aU ((cp ((dE (k s1 rfl rfl a1)).trans (k s2 rfl rfl a2))).trans (e_skip _))).trans ?_;refine(aU ((cp ((dE (k s1 rfl rfl b1)).trans (k s2 rfl rfl b2))).trans (e_skip _))).trans ?_;exact(aU ((cp ((dE (k s3 rfl rfl c1)).trans (k s3 rfl rfl c2))).trans (e_skip _))).trans (e_skip _)
def OL(i j:Nat):g6 (wz true (c6 [i,j]) none) (wz true (c6 [i,j]) none)=some true:=by
 have sh:cP 60 (wz true (c6 [i,j]) none):=iG.mpr fun d hd=>by
  rcases e_.mp hd with rfl|hd
  .exact(by kernel_rfl:QdA "ring" = true)
  .rcases e_.mp hd with rfl|hd
   .refine iG.mpr fun e he=>?_;obtain⟨x,_,rfl⟩:=V_.mp he;trivial
   .cases hd
 rw[oW rfl sh sh];unfold iL;have e:ZF (bI (wz true (c6 [i,j]) none)) (bI (wz true (c6 [i,j]) none))=true:=by show ZF (bI (.tup [.str "ring",.tup [.int (i:Int),.int (j:Int)]])) (bI (.tup [.str "ring",.tup [.int (i:Int),.int (j:Int)]]))=true;simp[bI,zbP,ZF,Zh]
 rw[e]
def KQ:io (.int 10) (.int 30)=some (.int (10^30)):=by show jx hJ _ _ _=_;rw[intsC_int,if_pos (by unfold hJ;decide)];rfl
abbrev sL(ns:List Int)(n:Nat)(rz:List (List Nat))(o dl:List Nat)(P:List (Str×List (Str×D)))(l:aL):aL:=some (IN ns)::some (nD n)::some (WD rz)::some (LN o)::some (TN dl)::some (cE dl n)::some (pS P)::l
def Ls(ns:List Int):yU [IN ns]=.ok (.bl true):=by
 obtain⟨c1,IO⟩:=pe ns 1 (by decide);obtain⟨c2,Id⟩:=pe ns 2 (by decide);obtain⟨c9,Cl⟩:=pe ns 9 (by decide);have h1:1<=1+c1%6:=by omega
 have h6:1+c1%6<=6:=by omega
 have e1:f2 (ci 1) (f2 (cg (aJ (gv 0) (aJ (ci 1) aH)) [] j4) (ci 6) dm) addA [some (IN ns),none,none,none,none,none,none,none,none,none,none,none,none]=.ok (nD (1+c1%6)):=aT rfl (aT (aW (aF rfl (aF rfl aK)) IO) rfl (qg (by decide))) (lu _ _);generalize 1+c1%6=n at *;obtain⟨rz,q1,q2,hw⟩:=JK ns 3 n n (by decide) (by omega) (by omega);obtain⟨o,hp,hr⟩:=AS c2 n (by omega);have R:Rws rz n n:=⟨h1,by omega,y_ _,by omega,q1,q2⟩
 have Z:=qx R hp;obtain⟨hs,g,hh⟩:=Td R hp;have hk:=Qn R hp g hh (IN ns);have BT:lK [WD rz,LN o]=.ok (TN (dealt rz n n o)):=yF R false hp;have S1:=Gw Z false hp rfl;have S2:=Az (Bd R (uY Z)) (Rb Z g.ln (KY R hp g));have S3:=O9 R (uY Z);have td:=HG R Z.dn;generalize dealt rz n n o=dl at *;have hdn:=Z.dn;refine cf (n:=13) ?_
 dsimp only[Fo,yV]
 refine(aU (cJ e1)).trans ?_;refine(aU ((cp ?_).trans (e_skip _))).trans ?_
 .refine(dE (dL (b:=true) (dc (d:=.bl true) (aW (aF rfl (aF rfl aK)) (Sm ns h1 (by omega))) rfl))).trans ?_;exact dL (b:=true) (dc (d:=.bl true) (aW (aF rfl (aF rfl aK)) (Sf ns h1 h6)) rfl)
 refine(aU (cJ (aW (aF rfl (aF rfl (aF rfl (aF rfl aK)))) hw))).trans ?_;refine(aU (cJ (bU (aF (aW (aF (aW (aF rfl (aF rfl aK)) Id) (aF rfl aK)) hr) aK) rfl))).trans ?_;refine(aU (cJ (aW (aF rfl (aF rfl aK)) BT))).trans ?_;refine(aU (cJ (aW (aF rfl (aF rfl aK)) (BI (by omega) (by omega))))).trans ?_;refine(aU (cJ (aW (aF rfl (aF rfl (aF rfl (aF rfl aK)))) hk))).trans ?_;generalize hP:([("Ordered",[("order",LN o)]),("Rising",[("heights",LN hs)]),("Parted",[("parts",dD dl)])]:List (Str×List (Str×D)))=P;refine(aU ((cp (eY (aT rfl rfl (show sU (pS P) .non=some (.bl false)from rfl)))).trans (e_skip _))).trans ?_;have ld:=Sg Z;have hx:((n:Nat):Int)<=10^30+((c9%1000:Nat):Int):=by omega
 have e8:∀y:Option D,f2 (f2 (ci 10) (ci 30) io) (f2 (cg (aJ (gv 0) (aJ (ci 9) aH)) [] j4) (ci 1000) dm) addA (sL ns n rz o dl P [y,none,none,none,none,none])=.ok (.int (10^30+((c9%1000:Nat):Int))):=fun y=>aT (aT rfl rfl KQ) (aT (aW (aF rfl (aF rfl aK)) Cl) rfl (qg (by decide))) rfl;generalize(10:Int)^30+((c9%1000:Nat):Int)=x at *;have m0:∀y:Option D,ig (aJ (dO "Goes" (aJ (cz aH) (aJ (cz aH) aH)) [] j5) (aJ (dO "Ordered" (aJ (cz aH) aH) [] jq) (aJ (dO "Betters" (aJ (cz (aJ (fun _=>Res.ok (D.str "ring")) (aJ (cz aH) aH))) aH) [] lH) (aJ (dO "Betters" (aJ (cz (aJ (fun _=>Res.ok (D.str "line")) (aJ (cz aH) (aJ (ci 0) aH)))) aH) [] lH) aH)))) (sL ns n rz o dl P [y,some (.int x),none,none,none,none])=.ok (pS eP0):=fun y=>by have t0:∀r:aL,cz aH r=.ok (.tup []):=fun r=>dB aK (by simp);refine hX (ds:=[_,_,_,_]) (aF (fN (ds:=[.tup [],.tup []]) (aF (t0 _) (aF (t0 _) aK)) (AN (i6 4) (i6 4))) (aF (fN (ds:=[.tup []]) (aF (t0 _) aK) (wB (i6 4))) (aF (fN (ds:=[wz true [] none]) (aF (dB (ds:=[.str "ring",.tup []]) (aF rfl (aF (t0 _) aK)) (by simp)) aK) (vZ (tR 3 true (by simp)))) (aF (fN (ds:=[wz true [] (some 0)]) (aF (dB (ds:=[.str "line",.tup [],.int 0]) (aF rfl (aF (t0 _) (aF rfl aK))) (by simp)) aK) (vZ (tR 3 true (by simp)))) aK)))) (by simp)
 have rT:∀y z u:Option D,f2 (cz (aJ (gv 8) aH)) (gv 1) kj (sL ns n rz o dl P [y,some (.int x),z,u,none,none])=.ok (.tup (d_ n (.int x))):=fun y z u=>aT (dB (aF rfl aK) (by simp)) rfl (AJ h1 (by omega));have m1:∀y z:Option D,ig (aJ (dO "Goes" (aJ (f2 (cz (aJ (gv 8) aH)) (gv 1) kj) (aJ (cz (aJ (cz (aJ (gv 8) (aJ (gv 8) aH))) aH)) aH)) [] j5) (aJ (dO "Ordered" (aJ (f2 (ig (aJ (gv 8) aH)) (gv 1) jF) aH) [] jq) (aJ (dO "Betters" (aJ (cz (aJ (fun _=>Res.ok (D.str "line")) (aJ (cz (aJ (ci 0) aH)) (aJ (gv 8) aH)))) aH) [] lH) aH))) (sL ns n rz o dl P [y,some (.int x),z,none,none,none])=.ok (pS (pJ n x)):=fun y z=>by have a1:=fN (nm := "Goes") (F:=j5) (ds:=[.tup (d_ n (.int x)),.tup [.tup [.int x,.int x]]]) (aF (rT y z none) (aF (dB (aF (dB (aF (f:=gv 8) (d:=.int x) rfl (aF (f:=gv 8) (d:=.int x) rfl aK)) (by simp)) aK) (by simp)) aK)) (AN (tM 4 x (by omega)) (EO (fF (eU _ _) (eU _ _))));have a2:=fN (nm := "Ordered") (F:=jq) (ds:=[.lst (d_ n (.int x))]) (r:=(sL ns n rz o dl P [y,some (.int x),z,none,none,none])) (aF (aT (hX (aF (f:=gv 8) (d:=.int x) rfl aK) (by simp)) (f':=gv 1) rfl (KW (by omega))) aK) (wB (LK 4 x (by omega)));have a3:=fN (nm := "Betters") (F:=lH) (ds:=[wz true [0] (some x)]) (r:=(sL ns n rz o dl P [y,some (.int x),z,none,none,none])) (aF (dB (ds:=[.str "line",.tup [.int 0],.int x]) (aF (f:=fun _=>Res.ok (D.str "line")) (d:=.str "line") rfl (aF (dB (ds:=[.int 0]) (aF (f:=fun _=>Res.ok (D.int 0)) (d:=.int 0) rfl aK) (by simp)) (aF (f:=gv 8) (d:=.int x) rfl aK))) (by simp)) aK) (vZ (tR 3 true (by simp)));exact hX (aF a1 (aF a2 (aF a3 aK))) (by simp)
 have m2:∀y z:Option D,ig (aJ (dO "Rising" (aJ (cz aH) aH) [] iI) (aJ (dO "Handing" (aJ (cz aH) (aJ (cz (aJ (ci 1) (aJ (ci 1) aH))) aH)) [] iS) (aJ (dO "Parted" (aJ (cz aH) aH) [] js) (aJ (dO "Rising" (aJ (f2 (cz (aJ (f1 (gv 8) nA) aH)) (gv 1) kj) aH) [] iI) (aJ (dO "Handing" (aJ (cz (aJ (cz (aJ (ci 0) (aJ (gv 8) aH))) (aJ (cz (aJ (gv 8) (aJ (ci 0) aH))) aH))) (aJ (cz (aJ (ci 1) (aJ (gv 8) aH))) aH)) [] iS) aH))))) (sL ns n rz o dl P [y,some (.int x),z,none,none,none])=.ok (pS (oP0 n x)):=fun y z=>by have t0:∀r:aL,cz aH r=.ok (.tup []):=fun r=>dB aK (by simp);have t2:∀{fa fc:FE}{a b:Int}{r:aL},fa r=.ok (.int a)->fc r=.ok (.int b)->cz (aJ fa (aJ fc aH)) r=.ok (.tup [.int a,.int b]):=fun u v=>dB (aF u (aF v aK)) (by simp);have a1:∀r:aL,_:=fun r=>fN (nm := "Rising") (F:=iI) (r:=r) (ds:=[.tup []]) (aF (t0 _) aK) (qJ (i6 4));have a2:∀r:aL,dO "Handing" (aJ (cz aH) (aJ (cz (aJ (ci 1) (aJ (ci 1) aH))) aH)) [] iS r=_:=fun r=>fN (ds:=[.tup [],.tup [.int 1,.int 1]]) (aF (t0 _) (aF (t2 rfl rfl) aK)) (wA (i6 4) (fF (eU _ _) (eU _ _)));have a3:∀r:aL,_:=fun r=>fN (nm := "Parted") (F:=js) (r:=r) (ds:=[.tup []]) (aF (t0 _) aK) (vS (i6 4));have a4:=fN (nm := "Rising") (F:=iI) (ds:=[.tup (d_ n (.int (-x)))]) (r:=(sL ns n rz o dl P [y,some (.int x),z,none,none,none])) (aF (aT (dB (aF (fJ (f:=gv 8) (a:=.int x) rfl (negI_int x)) aK) (by simp)) (f':=gv 1) rfl (AJ h1 (by omega))) aK) (qJ (tM 4 (-x) (by omega)));have a5:dO "Handing" (aJ (cz (aJ (cz (aJ (ci 0) (aJ (gv 8) aH))) (aJ (cz (aJ (gv 8) (aJ (ci 0) aH))) aH))) (aJ (cz (aJ (ci 1) (aJ (gv 8) aH))) aH)) [] iS (sL ns n rz o dl P [y,some (.int x),z,none,none,none])=_:=fN (ds:=[.tup [.tup [.int 0,.int x],.tup [.int x,.int 0]],.tup [.int 1,.int x]]) (aF (dB (aF (t2 (a:=0) (b:=x) rfl rfl) (aF (t2 (a:=x) (b:=0) rfl rfl) aK)) (by simp)) (aF (t2 (a:=1) (b:=x) rfl rfl) aK)) (wA (fF (fF (eU _ _) (eU _ _)) (fF (eU _ _) (eU _ _))) (fF (eU _ _) (eU _ _)));exact hX (aF (a1 _) (aF (a2 _) (aF (a3 _) (aF a4 (aF a5 aK))))) (by simp)
 have m3:∀y z u:Option D,dO "Parted" (aJ (ig (aJ (cz (aJ (cz (aJ (ci 1) (aJ (ci 1) aH))) (aJ (f2 (cz (aJ (gv 8) aH)) (gv 1) kj) aH))) aH)) aH) [] js (sL ns n rz o dl P [y,some (.int x),z,u,none,none])=.ok (iD (nz n x).1 (nz n x).2):=fun y z u=>fN (ds:=[.lst [.tup [fb true,.tup (d_ n (.int x))]]]) (aF (hX (aF (dB (aF (dB (aF rfl (aF rfl aK)) (by simp)) (aF (rT y z u) aK)) (by simp)) aK) (by simp)) aK) (vS (LI (fF (fF (eU _ _) (eU _ _)) (tM 2 x (by omega)))));obtain⟨wd,Y,U⟩:∃wd,wT [WD rz,TN dl,nD n]=.ok wd/\(wd=.non\/∃i j,Wo rz dl n i j/\wd=j6 dl i j):=by
  rcases ld with h|⟨i,j,w,h⟩
  .exact⟨_,h,.inl rfl⟩
  .exact⟨_,h,.inr ⟨i,j,w,rfl⟩⟩
 refine(aU (cJ (aW (aF rfl (aF rfl (aF rfl aK))) Y))).trans ?_;refine(aU (cJ (e8 _))).trans ?_;refine(aU (cJ (m0 _))).trans ?_;refine(aU (cJ (aT rfl (m1 _ _) (GY (by simp))))).trans ?_;refine(aU (cJ (m2 _ _))).trans ?_;refine(aU (ma (d:=pS (oP0 n x)) rfl rfl (aF (m3 _ _ _) aK) (vG (by simp)))).trans ?_;show seqF _ _ (sL ns n rz o dl P [some wd,some (.int x),some (pS (eP0++pJ n x)),some (pS (oP0 n x++[nz n x])),none,none])=_;have el:=Ek Z hx;have ol:=Ej Z hx;have c:(eP0++pJ n x).length+(oP0 n x++[nz n x]).length<=1000:=by simp
 clear m0 m1 m2 m3 e8 rT;generalize eP0++pJ n x=E at *;generalize oP0 n x++[nz n x]=O at *;have cs:∀q∈E++O,Sy rz (TN dl) false q/\Sy rz (cE dl n) false q:=fun q hq=>(QaE.mp hq).elim (el q) (ol q);have tn:=turn (rz:=rz) (dl:=dl) (td:=cE dl n) (P:=P) (P1:=[("Ordered",[("order",LN o)])]) (P2:=[("Rising",[("heights",LN hs)]),("Parted",[("parts",dD dl)])]) (E:=E) (O:=O) (by subst hP;rfl) (by subst hP;rfl)
  (fun q hq=>by rw[H_.mp hq];exact S1)
  (fun q hq=>by
   simp only[e_,p_,or_false]at hq;rcases hq with rfl|rfl
   .exact S2
   .exact S3)
  (fun q hq=>by rw[H_.mp hq];exact uW R hdn _)
  (fun q hq=>by
   simp only[e_,p_,or_false]at hq;rcases hq with rfl|rfl
   .exact qt td
   .exact uX td)
  c (fun q hq=>(cs q hq).1) (fun q hq=>(cs q hq).2)
 refine(aU ((fV (ds:=(g_ 2).map nD) (jj (aF rfl aK) (jh (by decide)))).trans ((gD rfl (tn _ _ _ _ _ _ _)).trans ((gD rfl (tn _ _ _ _ _ _ _)).trans ia)))).trans ?_;rcases U with rfl|⟨i,j,w,rfl⟩
 .exact aY ((cO (eY (aT rfl rfl rfl))).trans (aY (bV rfl)))
 have wb:=NC Z w;have Zs:=E2 Z w;have KK:=Zs.dn;refine(aU ((cp (eY (aT rfl rfl rfl))).trans (e_skip _))).trans ?_;refine(aU (cJ (fN (ds:=[wz true (c6 [i,j]) none]) (aF (aT rfl rfl (gl rfl)) aK) (vZ (tR 3 true (by simp)))))).trans ?_;show seqF _ _ (sL ns n rz o dl P [some (j6 dl i j),some (.int x),some (pS E),some (pS O),some (nD 1),some (iD "Betters" [("way",wz true (c6 [i,j]) none)])])=_;have k:∀{t:D}{b:Bool},Sy rz t b ("Betters",[("way",wz true (c6 [i,j]) none)])->∀{fa fd:FE},fa (sL ns n rz o dl P [some (j6 dl i j),some (.int x),some (pS E),some (pS O),some (nD 1),some (iD "Betters" [("way",wz true (c6 [i,j]) none)])])=.ok t->fd (sL ns n rz o dl P [some (j6 dl i j),some (.int x),some (pS E),some (pS O),some (nD 1),some (iD "Betters" [("way",wz true (c6 [i,j]) none)])])=.ok (.bl b)->cg (aJ (ig (aJ (gv 12) aH)) (aJ (gv 2) (aJ fa (aJ fd aH)))) [] jC (sL ns n rz o dl P [some (j6 dl i j),some (.int x),some (pS E),some (pS O),some (nD 1),some (iD "Betters" [("way",wz true (c6 [i,j]) none)])])=.ok (.bl true):=fun sy _ _ v1 v2=>aW (aF (hX (aF rfl aK) (by simp)) (aF rfl (aF v1 (aF v2 aK)))) (kO (ps:=[("Betters",[("way",wz true (c6 [i,j]) none)])]) fun q hq=>by rw[H_.mp hq];exact sy);have hne:neD (wz true (c6 [i,j]) none) (wz true (c6 [i,j]) none)=some (.bl false):=by unfold neD;rw[OL];rfl
 have w0:f2 (gv 7) (ci 0) bP (sL ns n rz o dl P [some (j6 dl i j),some (.int x),some (pS E),some (pS O),some (nD 1),some (iD "Betters" [("way",wz true (c6 [i,j]) none)])])=.ok (TN (sw dl i j)):=aT rfl rfl (gl rfl);refine(aU ((cp ?_).trans (e_skip _))).trans ?_
 .refine(dE (eY (aT (a:=wz true (c6 [i,j]) none) (b:=wz true (c6 [i,j]) none) (fJ (a:=iD "Betters" [("way",wz true (c6 [i,j]) none)]) rfl rfl) (aT rfl rfl (gl rfl)) hne))).trans ?_;exact dL (b:=true) (dc (d:=.bl true) (k (pZ Zs wb.1) w0 rfl) rfl)
 refine aY (bV ((eV (k (uU (k:=n) R KK _) (aW (aF w0 (aF rfl aK)) (BI (by omega) (by omega))) rfl)).trans ?_));exact k (pZ Z wb.2) rfl rfl
def main(ns:List Int)(_:ns.length<=63):yU [.lst (ns.map .int)]=.ok (.bl true):=Ls ns
end Law
open PySem PySem.W PyProof.Rows
namespace Law
abbrev UA:List PySem.Str:=["TradeError","NoFraction","NotOwned","NoOrder"]
open PySem PySem.Spec PyProof.Rows L2 DL
def EC{P:C_}{w:N_}{K:W.Frag}{h:Heap}{mg:Str->Option Value}(KX:K.In h)(G:h.Ns K_ mg){cA cB cC cD:Addr}{bA bB bC bD:List Value}{nD:Addr}{fD:Addr}{UT UY ST U4 ld Vm:Value}{UZ U8:Option Addr}{LT:Array (Option Value)}{L:DL.QL}(aA:W.nsIn K K_ "TradeError" = some (some (.ref cA)))(aB:W.nsIn K K_ "NoFraction" = some (some (.ref cB)))(aC:W.nsIn K K_ "NotOwned" = some (some (.ref cC)))(aD:W.nsIn K K_ "NoOrder" = some (some (.ref cD)))(oA:DL.fX K cA=some (bA,(D_ "TradeError")))(U1:bA.contains (Value.type "BaseException")=true)(Vk:bA.contains (Value.type "object")=true)(UW:W.findIn K (.ref cA) "__getattribute__" = some (some (.builtin "BaseException.__getattribute__")))(Va:W.findIn K (.ref cA) "__getattr__" = some (none))(UV:W.findIn K (.ref cA) "__class__" = some (some (.builtin "object.__class__")))(Vd:DL.eN K "TradeError" cA=true)(oB:DL.fX K cB=some (bB,(D_ "NoFraction")))(Vb:bB.contains (Value.type "BaseException")=true)(UX:bB.contains (Value.type "object")=true)(Vj:W.findIn K (.ref cB) "__getattribute__" = some (some (.builtin "BaseException.__getattribute__")))(Vp:W.findIn K (.ref cB) "__getattr__" = some (none))(Vi:W.findIn K (.ref cB) "__class__" = some (some (.builtin "object.__class__")))(U2:DL.eN K "NoFraction" cB=true)(oC:DL.fX K cC=some (bC,(D_ "NotOwned")))(U6:bC.contains (Value.type "BaseException")=true)(Vn:bC.contains (Value.type "object")=true)(U5:W.findIn K (.ref cC) "__getattribute__" = some (some (.builtin "BaseException.__getattribute__")))(Vl:W.findIn K (.ref cC) "__getattr__" = some (none))(U7:W.findIn K (.ref cC) "__class__" = some (some (.builtin "object.__class__")))(Ve:DL.eN K "NotOwned" cC=true)(oD:DL.fX K cD=some (bD,(D_ "NoOrder")))(UU:bD.contains (Value.type "BaseException")=true)(U0:bD.contains (Value.type "object")=true)(Vo:W.findIn K (.ref cD) "__getattribute__" = some (some (.builtin "BaseException.__getattribute__")))(US:W.findIn K (.ref cD) "__getattr__" = some (none))(Vf:W.findIn K (.ref cD) "__class__" = some (some (.builtin "object.__class__")))(Vg:DL.eN K "NoOrder" cD=true)(gg:W.specialIn K (.builtin "object.__class__") "__get__" = some (some (.builtin "getset_descriptor.__get__")))(gt:W.takesIn K (.builtin "object.__class__")=some true)(hL:L=[((D_ "TradeError"),cA,bA),((D_ "NoFraction"),cB,bB),((D_ "NotOwned"),cC,bC),((D_ "NoOrder"),cD,bD)])(Vq:DL.ED K cD=some nD)(zD:DL.iO K cD nD=true)(IO:W.findIn K (.ref cD) "__setattr__" = some (some (.builtin "object.__setattr__")))(KK:W.findIn K (.ref cD) "at" = some none)(Vc:W.specialIn K (.ref cA) "__getattribute__" = some (some (.builtin "type.__getattribute__")))(U3:W.readsIn K cA (.type "type")=true)(Ty:W.findCls K (.ref cA) (.type "type") "__init__" = some (.val (.builtin "ValueError.__init__")))(iD:W.nsIn K nD "__init__" = some (some (.ref fD)))(U9:W.keepIn K (.ref cD)=true)(lD:K.lookup fD=some ⟨UT,UZ,.func (W.fnOf "__init__" "NoOrder.__init__" (L2.aP Law.lC) (L2.aO Law.lC) (L2.aE Law.lC) .none UY ST U4 U8 ld Vm),LT⟩)(Id:W.codeIn K ld "NoOrder.__init__" = true)(LE:W.keepIn K (.ref fD)=true)(Tm:W.typeIn K (.ref fD)=some (.type "function"))(Vh:(Value.ref cD::bD).contains (.ref cD)=true):∃(Z:Addr)(Y:Addr)(Cl:Addr)(C_NoOrder:Addr)(U:List Value)(z:List Value)(BT:List Value)(bm_NoOrder:List Value),(∀base,XCI P w K mg base "NoOrder" C_NoOrder "at")/\(XN K "NoOrder" C_NoOrder)/\(XA K C_NoOrder bm_NoOrder)/\(mg "NoOrder" = some (.ref C_NoOrder))/\(pM K C_NoOrder BB):=by
 have qA:=(DL.tw oA U1 Vk UW Va UV gg gt Vd)
 have qB:=(DL.tw oB Vb UX Vj Vp Vi gg gt U2)
 have qC:=(DL.tw oC U6 Vn U5 Vl U7 gg gt Ve)
 have qD:=(DL.tw oD UU U0 Vo US Vf gg gt Vg)
 subst hL;have hN:ZL (·.1) [((D_ "TradeError"),cA,bA),((D_ "NoFraction"),cB,bB),((D_ "NotOwned"),cC,bC),((D_ "NoOrder"),cD,bD)]=Law.UA:=rfl;have hf:DL.tu (fun q:Str×Addr×List Value=>DL.CF K q.1 q.2.1 q.2.2) [((D_ "TradeError"),cA,bA),((D_ "NoFraction"),cB,bB),((D_ "NotOwned"),cC,bC),((D_ "NoOrder"),cD,bD)]:=⟨qA,qB,qC,qD,trivial⟩
 exact⟨cA,cB,cC,cD,bA,bB,bC,bD,DL.KI KX G aD U9 zD oD (DL.EY zD oD IO KK) iD (L2.cv lD Id LE) Tm Law.OU (Law.Oa (L2.cv lD Id LE) (DL.EY zD oD IO KK) (W.mg_of KX G aA) ⟨Vc,U3,Ty⟩),qD.xn,qD.xa,W.mg_of KX G aD,DL.KG [((D_ "NoOrder"),cD,bD)] (by intro q hq;simp only[e_,p_,or_false]at hq;rcases hq with rfl <;> first|exact⟨qD,Vh⟩) (fun nm h=>by have h2:=Zp.mp h;simp only[e_,p_,or_false]at h2;rcases h2 with rfl <;> simp)⟩
end Law
namespace Law
open PySem PySem.Spec PyProof.Rows L2 DL
def KA{K:W.Frag}{h:Heap}{mg:Str->Option Value}(KX:K.In h)(G:h.Ns K_ mg){U Z ld Y BT z:Addr}{UW:Addr}{W8 W6 WE WV U1 WU:Value}{W5 WN:Option Addr}{Ws:Array (Option Value)}{UY:Addr}{Xg Xh WQ Xe Va Xn:Value}{Xq Xs:Option Addr}{W1:Array (Option Value)}{UZ:Addr}{Xl Xi WR Xv Vb Xk:Value}{Xu Xp:Option Addr}{W4:Array (Option Value)}{UX:Addr}{Xa WH Wu WW U2 W0:Value}{W2 WM:Option Addr}{Wz:Array (Option Value)}{V0:Addr}{XJ XG XC XM V5 XL:Value}{XS XH:Option Addr}{Xx:Array (Option Value)}{UV:Addr}{Xb W9 Ww WK U3 WX:Value}{WP WY:Option Addr}{Wx:Array (Option Value)}{LT:Addr}{V6 We V4 V9 UU Wa:Value}{Wg V7:Option Addr}{V3:Array (Option Value)}{Cl:Addr}{Vr Vl U7 Vg Ty Vy:Value}{Vv VA:Option Addr}{U5:Array (Option Value)}{Id:Addr}{Vm VB U6 Vw Tm Vk:Value}{Vt Vz:Option Addr}{U4:Array (Option Value)}{KK:Addr}{VW VT Ve VO US VL:Value}{VH VN:Option Addr}{Vu:Array (Option Value)}{IO:Addr}{Vs VD U9 Vd ST Vn:Value}{Vp Vo:Option Addr}{U8:Array (Option Value)}{LE:Addr}{VJ VY Vh VF UT VU:Value}{VV VR:Option Addr}{VC:Array (Option Value)}(Yi:W.nsIn K K_ "Ordered" = some (some (.ref U)))(YJ:W.nsIn K K_ "Rising" = some (some (.ref Z)))(YL:W.nsIn K K_ "Parted" = some (some (.ref ld)))(Yp:W.nsIn K K_ "Betters" = some (some (.ref Y)))(YV:W.nsIn K K_ "Goes" = some (some (.ref BT)))(Yo:W.nsIn K K_ "Handing" = some (some (.ref z)))(X9:DL.gF K U (D_ "Ordered")=true)(X6:DL.eN K "Ordered" U=true)(X1:W.plainGet K U Qbc=true)(X2:W.hasDictIn K U=true)(Yq:W.plainOver K U=true)(Yb:W.findIn K (.ref U) "__setattr__" = some (some (.builtin "object.__setattr__")))(YE:DL.gF K Z (D_ "Rising")=true)(Yv:DL.eN K "Rising" Z=true)(Yw:W.plainGet K Z Qbc=true)(YQ:W.hasDictIn K Z=true)(YG:W.plainOver K Z=true)(YH:W.findIn K (.ref Z) "__setattr__" = some (some (.builtin "object.__setattr__")))(YO:DL.gF K ld (D_ "Parted")=true)(YC:DL.eN K "Parted" ld=true)(YD:W.plainGet K ld Qbc=true)(Yu:W.hasDictIn K ld=true)(YF:W.plainOver K ld=true)(YB:W.findIn K (.ref ld) "__setattr__" = some (some (.builtin "object.__setattr__")))(X0:DL.gF K Y (D_ "Betters")=true)(Ym:DL.eN K "Betters" Y=true)(Yk:W.plainGet K Y Qbc=true)(Yj:W.hasDictIn K Y=true)(X4:W.plainOver K Y=true)(X7:W.findIn K (.ref Y) "__setattr__" = some (some (.builtin "object.__setattr__")))(YW:DL.gF K BT (D_ "Goes")=true)(YZ:DL.eN K "Goes" BT=true)(Y0:W.plainGet K BT Qbc=true)(YX:W.hasDictIn K BT=true)(YY:W.plainOver K BT=true)(Y1:W.findIn K (.ref BT) "__setattr__" = some (some (.builtin "object.__setattr__")))(Yr:DL.gF K z (D_ "Handing")=true)(X5:DL.eN K "Handing" z=true)(Ya:W.plainGet K z Qbc=true)(XV:W.hasDictIn K z=true)(XU:W.plainOver K z=true)(Yt:W.findIn K (.ref z) "__setattr__" = some (some (.builtin "object.__setattr__")))(Wf:W.findIn K (.ref Z) "heights" = some none)(Wl:W.findIn K (.ref U) "order" = some none)(Xz:W.findIn K (.ref BT) "owns" = some none)(WA:W.findIn K (.ref z) "part" = some none)(Wv:W.findIn K (.ref ld) "parts" = some none)(Xy:W.findIn K (.ref BT) "ring" = some none)(WF:W.findIn K (.ref z) "ring" = some none)(W7:W.findIn K (.ref Y) "way" = some none)(Yl:W.makesIn K U=true)(Yg:W.findIn K (.ref U) "__init__" = some (some (.ref UW)))(Ye:W.isFn K (.ref UW)=true)(Yd:W.keepIn K (.ref U)=true)(Xr:K.lookup UW=some ⟨W8,W5,.func (W.fnOf "__init__" "Ordered.__init__" (L2.aP Law.mz) (L2.aO Law.mz) (L2.aE Law.mz) .none W6 WE WV WN U1 WU),Ws⟩)(WJ:W.codeIn K U1 "Ordered.__init__" = true)(WT:W.keepIn K (.ref UW)=true)(YI:W.makesIn K Z=true)(YK:W.findIn K (.ref Z) "__init__" = some (some (.ref UY)))(Yy:W.isFn K (.ref UY)=true)(Yx:W.keepIn K (.ref Z)=true)(XB:K.lookup UY=some ⟨Xg,Xq,.func (W.fnOf "__init__" "Rising.__init__" (L2.aP Law.mr) (L2.aO Law.mr) (L2.aE Law.mr) .none Xh WQ Xe Xs Va Xn),W1⟩)(Xf:W.codeIn K Va "Rising.__init__" = true)(Xw:W.keepIn K (.ref UY)=true)(YN:W.makesIn K ld=true)(Yz:W.findIn K (.ref ld) "__init__" = some (some (.ref UZ)))(YM:W.isFn K (.ref UZ)=true)(YA:W.keepIn K (.ref ld)=true)(XD:K.lookup UZ=some ⟨Xl,Xu,.func (W.fnOf "__init__" "Parted.__init__" (L2.aP Law.mq) (L2.aO Law.mq) (L2.aE Law.mq) .none Xi WR Xv Xp Vb Xk),W4⟩)(Xd:W.codeIn K Vb "Parted.__init__" = true)(Xj:W.keepIn K (.ref UZ)=true)(X8:W.makesIn K Y=true)(XZ:W.findIn K (.ref Y) "__init__" = some (some (.ref UX)))(Ys:W.isFn K (.ref UX)=true)(X3:W.keepIn K (.ref Y)=true)(Xc:K.lookup UX=some ⟨Xa,W2,.func (W.fnOf "__init__" "Betters.__init__" (L2.aP Law.mi) (L2.aO Law.mi) (L2.aE Law.mi) .none WH Wu WW WM U2 W0),Wz⟩)(W3:W.codeIn K U2 "Betters.__init__" = true)(WO:W.keepIn K (.ref UX)=true)(YS:W.makesIn K BT=true)(YU:W.findIn K (.ref BT) "__init__" = some (some (.ref V0)))(YR:W.isFn K (.ref V0)=true)(YT:W.keepIn K (.ref BT)=true)(Yc:K.lookup V0=some ⟨XJ,XS,.func (W.fnOf "__init__" "Goes.__init__" (L2.aP Law.l7) (L2.aO Law.l7) (L2.aE Law.l7) .none XG XC XM XH V5 XL),Xx⟩)(XQ:W.codeIn K V5 "Goes.__init__" = true)(XE:W.keepIn K (.ref V0)=true)(XY:W.makesIn K z=true)(Yn:W.findIn K (.ref z) "__init__" = some (some (.ref UV)))(Yf:W.isFn K (.ref UV)=true)(Yh:W.keepIn K (.ref z)=true)(Xt:K.lookup UV=some ⟨Xb,WP,.func (W.fnOf "__init__" "Handing.__init__" (L2.aP Law.mn) (L2.aO Law.mn) (L2.aE Law.mn) .none W9 Ww WK WY U3 WX),Wx⟩)(WS:W.codeIn K U3 "Handing.__init__" = true)(WZ:W.keepIn K (.ref UV)=true)(Xo:W.findIn K (.ref BT) "shows" = some (some (.ref LT)))(Xm:W.isFn K (.ref LT)=true)(Wp:K.lookup LT=some ⟨V6,Wg,.func (W.fnOf "shows" "Goes.shows" (L2.aP Law.mh) (L2.aO Law.mh) (L2.aE Law.mh) .none We V4 V9 V7 UU Wa),V3⟩)(Wc:W.codeIn K UU "Goes.shows" = true)(Wd:W.keepIn K (.ref LT)=true)(Wh:W.findIn K (.ref U) "shows" = some (some (.ref Cl)))(Wq:W.isFn K (.ref Cl)=true)(VM:K.lookup Cl=some ⟨Vr,Vv,.func (W.fnOf "shows" "Ordered.shows" (L2.aP Law.mF) (L2.aO Law.mF) (L2.aE Law.mF) .none Vl U7 Vg VA Ty Vy),U5⟩)(Vq:W.codeIn K Ty "Ordered.shows" = true)(Vi:W.keepIn K (.ref Cl)=true)(Wk:W.findIn K (.ref Y) "shows" = some (some (.ref Id)))(Wn:W.isFn K (.ref Id)=true)(VZ:K.lookup Id=some ⟨Vm,Vt,.func (W.fnOf "shows" "Betters.shows" (L2.aP Law.mD) (L2.aO Law.mD) (L2.aE Law.mD) .none VB U6 Vw Vz Tm Vk),U4⟩)(Vj:W.codeIn K Tm "Betters.shows" = true)(Vx:W.keepIn K (.ref Id)=true)(WG:W.findIn K (.ref Z) "shows" = some (some (.ref KK)))(WB:W.isFn K (.ref KK)=true)(V2:K.lookup KK=some ⟨VW,VH,.func (W.fnOf "shows" "Rising.shows" (L2.aP Law.mC) (L2.aO Law.mC) (L2.aE Law.mC) .none VT Ve VO VN US VL),Vu⟩)(VQ:W.codeIn K US "Rising.shows" = true)(VP:W.keepIn K (.ref KK)=true)(Wi:W.findIn K (.ref z) "shows" = some (some (.ref IO)))(Wm:W.isFn K (.ref IO)=true)(VE:K.lookup IO=some ⟨Vs,Vp,.func (W.fnOf "shows" "Handing.shows" (L2.aP Law.mE) (L2.aO Law.mE) (L2.aE Law.mE) .none VD U9 Vd Vo ST Vn),U8⟩)(Vf:W.codeIn K ST "Handing.shows" = true)(Vc:W.keepIn K (.ref IO)=true)(WC:W.findIn K (.ref ld) "shows" = some (some (.ref LE)))(Wt:W.isFn K (.ref LE)=true)(V1:K.lookup LE=some ⟨VJ,VV,.func (W.fnOf "shows" "Parted.shows" (L2.aP Law.mB) (L2.aO Law.mB) (L2.aE Law.mB) .none VY Vh VF VR UT VU),VC⟩)(VX:W.codeIn K UT "Parted.shows" = true)(VG:W.keepIn K (.ref LE)=true):(DL.dh K "heights" Law.oY)/\(DL.dh K "order" Law.jB)/\(DL.dh K "owns" Law.oF)/\(DL.dh K "part" Law.pW)/\(DL.dh K "parts" Law.oM)/\(DL.dh K "ring" Law.kr)/\(DL.dh K "way" Law.nW)/\(DL.MakeAt K mg "Ordered" "Ordered" "Ordered.__init__" Law.mz)/\(DL.MakeAt K mg "Rising" "Rising" "Rising.__init__" Law.mr)/\(DL.MakeAt K mg "Parted" "Parted" "Parted.__init__" Law.mq)/\(DL.MakeAt K mg "Betters" "Betters" "Betters.__init__" Law.mi)/\(DL.MakeAt K mg "Goes" "Goes" "Goes.__init__" Law.l7)/\(DL.MakeAt K mg "Handing" "Handing" "Handing.__init__" Law.mn)/\(DL.MethAt K "Goes" "shows" "Goes.shows" Law.mh)/\(DL.MethAt K "Ordered" "shows" "Ordered.shows" Law.mF)/\(DL.MethAt K "Betters" "shows" "Betters.shows" Law.mD)/\(DL.MethAt K "Rising" "shows" "Rising.shows" Law.mC)/\(DL.MethAt K "Handing" "shows" "Handing.shows" Law.mE)/\(DL.MethAt K "Parted" "shows" "Parted.shows" Law.mB):=by have VS:=DL.nP X9 X6 X1 X2 Yq Yb;have Wb:=DL.nP YE Yv Yw YQ YG YH;have V8:=DL.nP YO YC YD Yu YF YB;have VI:=DL.nP X0 Ym Yk Yj X4 X7;have Wj:=DL.nP YW YZ Y0 YX YY Y1;have U0:=DL.nP Yr X5 Ya XV XU Yt;exact⟨DL.lS [((D_ "Rising"),Z)] (by intro q hq;simp only[e_,p_,or_false]at hq;rcases hq with rfl <;> first|exact⟨Wb,Wf⟩) (fun nm h=>by have h2:=Zp.mp h;simp only[e_,p_,or_false]at h2;rcases h2 with rfl <;> simp),DL.lS [((D_ "Ordered"),U)] (by intro q hq;simp only[e_,p_,or_false]at hq;rcases hq with rfl <;> first|exact⟨VS,Wl⟩) (fun nm h=>by have h2:=Zp.mp h;simp only[e_,p_,or_false]at h2;rcases h2 with rfl <;> simp),DL.lS [((D_ "Goes"),BT)] (by intro q hq;simp only[e_,p_,or_false]at hq;rcases hq with rfl <;> first|exact⟨Wj,Xz⟩) (fun nm h=>by have h2:=Zp.mp h;simp only[e_,p_,or_false]at h2;rcases h2 with rfl <;> simp),DL.lS [((D_ "Handing"),z)] (by intro q hq;simp only[e_,p_,or_false]at hq;rcases hq with rfl <;> first|exact⟨U0,WA⟩) (fun nm h=>by have h2:=Zp.mp h;simp only[e_,p_,or_false]at h2;rcases h2 with rfl <;> simp),DL.lS [((D_ "Parted"),ld)] (by intro q hq;simp only[e_,p_,or_false]at hq;rcases hq with rfl <;> first|exact⟨V8,Wv⟩) (fun nm h=>by have h2:=Zp.mp h;simp only[e_,p_,or_false]at h2;rcases h2 with rfl <;> simp),DL.lS [((D_ "Goes"),BT),((D_ "Handing"),z)] (by intro q hq;simp only[e_,p_,or_false]at hq;rcases hq with rfl|rfl <;> first|exact⟨Wj,Xy⟩|exact⟨U0,WF⟩) (fun nm h=>by have h2:=Zp.mp h;simp only[e_,p_,or_false]at h2;rcases h2 with rfl|rfl <;> simp),DL.lS [((D_ "Betters"),Y)] (by intro q hq;simp only[e_,p_,or_false]at hq;rcases hq with rfl <;> first|exact⟨VI,W7⟩) (fun nm h=>by have h2:=Zp.mp h;simp only[e_,p_,or_false]at h2;rcases h2 with rfl <;> simp),DL.nQ VS (W.mg_of KX G Yi) Yl Yg Ye Yd (L2.cv Xr WJ WT),DL.nQ Wb (W.mg_of KX G YJ) YI YK Yy Yx (L2.cv XB Xf Xw),DL.nQ V8 (W.mg_of KX G YL) YN Yz YM YA (L2.cv XD Xd Xj),DL.nQ VI (W.mg_of KX G Yp) X8 XZ Ys X3 (L2.cv Xc W3 WO),DL.nQ Wj (W.mg_of KX G YV) YS YU YR YT (L2.cv Yc XQ XE),DL.nQ U0 (W.mg_of KX G Yo) XY Yn Yf Yh (L2.cv Xt WS WZ),DL.nR Wj Xo Xm (L2.cv Wp Wc Wd),DL.nR VS Wh Wq (L2.cv VM Vq Vi),DL.nR VI Wk Wn (L2.cv VZ Vj Vx),DL.nR Wb WG WB (L2.cv V2 VQ VP),DL.nR U0 Wi Wm (L2.cv VE Vf Vc),DL.nR V8 WC Wt (L2.cv V1 VX VG)⟩
end Law
abbrev P0:=QbI.prog
namespace PySem.W.Fast
def tw11312977351788801317:=0
def tw7069766064864471878:=0
def tw11637785614520895289:=0
def tw17225831869840240793:=0
def tw13511603080122774100:=0
def tw17626301591474984919:=0
def tw13519562205424455153:=0
def tw5961903767744678465:=0
def tw10762621989193654492:=0
def tw1734603326908576651:=0
def tw6613834881356142500:=0
def tw6754168376302673953:=0
def tw18163566924868382447:=0
def tw10962139352388049390:=0
def tw16327486836497771338:=0
def tw12546250328867975506:=0
def tw8566528556680875265:=0
def tw4910000446877476481:=0
def tw3797000821815837758:=0
def tw9193546560341195601:=0
def tw10499427002289539805:=0
def tw12688324115503252692:=0
def tw10114931311556966519:=0
def tw14495167755159578187:=0
def tw1631101239016631814:=0
def tw17796933184385893308:=0
def tw7676419793970035692:=0
def tw6739191419795175039:=0
def tw3525677903206934701:=0
def tw291692682000529066:=0
def tw10747341644759596750:=0
def tw10219262013919218933:=0
def tw17239425119525677036:=0
def tw5582609857920996625:=0
def tw4835528837638267884:=0
def tw18415089778893408261:=0
def tw9270781248991840338:=0
def tw11441570395332283927:=0
def tw13561444021169587618:=0
def tw15249692763554528470:=0
def tw12735200018010115743:=0
def tw11275606929071764823:=0
def tw17965008538983793087:=0
def tw7005324853587281378:=0
def tw10983666895984265321:=0
def tw4450701996749363786:=0
def tw17714404316030226009:=0
def tw15965341531644195572:=0
def tw15951704446482493506:=0
def tw14645616768333958575:=0
def tw5399586460777122563:=0
def tw16499679987653428217:=0
def tw9394501026967337107:=0
def tw13337437057518435147:=0
def tw14618353195049794728:=0
def tw11214762607156409303:=0
def tw2060464094388943733:=0
def tw15852952006461258848:=0
def tw2496419222122398340:=0
def tw65859130981963090:=0
def tw10004536865233411445:=0
def tw16843523080149751198:=0
def tw7266416837138684941:=0
def tw5885053715939630108:=0
def tw3733997065704191674:=0
def tw14479274981110689857:=0
def tw11423093269250495425:=0
def tw5440698986967777000:=0
def tw16255461158213339462:=0
def tw10302744941271912765:=0
def tw902918753589145245:=0
def tw8389284888508434046:=0
def tw12815647486076671515:=0
def tw7579764049882346210:=0
def tw1396180476424682585:=0
def tw2269957992060979081:=0
def tw14159722452294533598:=0
def tw2171807665559027753:=0
def tw7547323667837974044:=0
def tw6390679259651923578:=0
end PySem.W.Fast
set_option maxRecDepth 100000 in
set_option maxHeartbeats 0 in
theorem PySem.Challenge.cw_ringtrade_k43_papers_of_another_kind_holds : PySem.Challenge.rw_ringtrade_k43_papers_of_another_kind.Holds := by
 w_on; o_law; k_head; (case hw=>w_witness2)
 k_fill
 refine DL.KB (l:=PySem.Challenge.rw_ringtrade_k43_papers_of_another_kind) (k:=11) (x := "_law_script") (F:=Law.yU) rfl rfl ⟨rfl,by decide,by decide,rfl⟩ (fun w h Y=>PySem.W.kIn_of Y) Law.main ?C
 intro w mg fa h KX G hmg
 have T:Law.Txt (L2.bR KX) mg:=by
  dsimp only [L2.bR]
  refine ⟨?va,?vb,?vc,?vd,?ve,?vf,?vg,?vh,?vi,?vj,?vk,?vl,?vm,?vn,?vo⟩
  case va|vb|vc|vd|ve|vf|vg|vh|vi|vj|vk|vl|vm=>(refine' PySem.W.mg_none_of KX G ?_; k_is)
  case vn=>(refine' DL.EZ KX G ?vp ?vq; (case vp=>k_is); (case vq=>k_is))
  case vo=>(refine' DL.EZ KX G ?vr ?vs; (case vr=>k_is); (case vs=>k_is))
 obtain ⟨vt,vu,vv,ua,vw,vx,vy,u0,vz,v0,v1,v2,v3⟩:∃ (vt:Addr) (vu:Addr) (vv:Addr) (ua:Addr) (vw:List Value) (vx:List Value) (vy:List Value) (u0:List Value),(∀ base,DL.XCI PySem.Challenge.rw_ringtrade_k43_papers_of_another_kind.prog w (L2.bR KX) mg base "NoOrder" ua "at")∧(DL.XN (L2.bR KX) "NoOrder" ua)∧(DL.XA (L2.bR KX) ua u0)∧(mg "NoOrder" = some (.ref ua))∧(DL.pM (L2.bR KX) ua Law.BB):=by
  dsimp only [L2.bR]
  refine' Law.EC KX G ?v4 ?v5 ?v6 ?v7 ?v8 ?v9 ?wa ?wb ?wc ?wd ?we ?wf ?wg ?wh ?wi ?wj ?wk ?wl ?wm ?wn ?wo ?wp ?wq ?wr ?ws ?wt ?wu ?wv ?ww ?wx ?wy ?wz ?gg ?gt ?hL ?w0 ?w1 ?w2 ?w3 ?w4 ?w5 ?w6 ?w7 ?w8 ?w9 ?xa ?xb ?xc ?xd
  case v4|v5|v6|v7=>k_is
  case v8=>exact rfl
  case v9|wa=>decide +kernel
  case wb|wc|wd=>k_is
  case we=>kernel_rfl
  case wf=>exact rfl
  case wg|wh=>decide +kernel
  case wi|wj|wk=>k_is
  case wl=>kernel_rfl
  case wm=>exact rfl
  case wn|wo=>decide +kernel
  case wp|wq|wr=>k_is
  case ws=>kernel_rfl
  case wt=>exact rfl
  case wu|wv=>decide +kernel
  case ww|wx|wy=>k_is
  case wz=>kernel_rfl
  case gg|gt=>k_is
  case hL|w0=>exact rfl
  case w1=>kernel_rfl
  case w2|w3|w4=>k_is
  case w5|w6=>kernel_rfl
  case w7|w8|w9|xa|xb|xc=>k_is
  case xd=>decide +kernel
 obtain ⟨ui,uj,uk,ul,um,uc,un,xe,xf,xg,xh,xi,xj,xk,xl,xm,xn,xo,xp⟩:(DL.dh (L2.bR KX) "heights" Law.oY)∧(DL.dh (L2.bR KX) "order" Law.jB)∧(DL.dh (L2.bR KX) "owns" Law.oF)∧(DL.dh (L2.bR KX) "part" Law.pW)∧(DL.dh (L2.bR KX) "parts" Law.oM)∧(DL.dh (L2.bR KX) "ring" Law.kr)∧(DL.dh (L2.bR KX) "way" Law.nW)∧(DL.MakeAt (L2.bR KX) mg "Ordered" "Ordered" "Ordered.__init__" Law.mz)∧(DL.MakeAt (L2.bR KX) mg "Rising" "Rising" "Rising.__init__" Law.mr)∧(DL.MakeAt (L2.bR KX) mg "Parted" "Parted" "Parted.__init__" Law.mq)∧(DL.MakeAt (L2.bR KX) mg "Betters" "Betters" "Betters.__init__" Law.mi)∧(DL.MakeAt (L2.bR KX) mg "Goes" "Goes" "Goes.__init__" Law.l7)∧(DL.MakeAt (L2.bR KX) mg "Handing" "Handing" "Handing.__init__" Law.mn)∧(DL.MethAt (L2.bR KX) "Goes" "shows" "Goes.shows" Law.mh)∧(DL.MethAt (L2.bR KX) "Ordered" "shows" "Ordered.shows" Law.mF)∧(DL.MethAt (L2.bR KX) "Betters" "shows" "Betters.shows" Law.mD)∧(DL.MethAt (L2.bR KX) "Rising" "shows" "Rising.shows" Law.mC)∧(DL.MethAt (L2.bR KX) "Handing" "shows" "Handing.shows" Law.mE)∧(DL.MethAt (L2.bR KX) "Parted" "shows" "Parted.shows" Law.mB):=by
  dsimp only [L2.bR]
  refine' Law.KA KX G ?xq ?xr ?xs ?xt ?xu ?xv ?xw ?xx ?xy ?xz ?x0 ?x1 ?x2 ?x3 ?x4 ?x5 ?x6 ?x7 ?x8 ?x9 ?ya ?yb ?yc ?yd ?ye ?yf ?yg ?yh ?yi ?yj ?yk ?yl ?ym ?yn ?yo ?yp ?yq ?yr ?ys ?yt ?yu ?yv ?yw ?yx ?yy ?yz ?y0 ?y1 ?y2 ?y3 ?y4 ?y5 ?y6 ?y7 ?y8 ?y9 ?za ?zb ?zc ?zd ?ze ?zf ?zg ?zh ?zi ?zj ?zk ?zl ?zm ?zn ?zo ?zp ?zq ?zr ?zs ?zt ?zu ?zv ?zw ?zx ?zy ?zz ?z0 ?z1 ?z2 ?z3 ?z4 ?z5 ?z6 ?z7 ?z8 ?z9 ?aa ?ab ?ac ?ad ?ae ?af ?ag ?ah ?ai ?aj ?ak ?al ?am ?an ?ao ?ap ?aq ?ar ?au ?av ?aw ?ax ?ay ?az ?a0 ?a1 ?a2 ?a3 ?a4 ?a5
  case xq|xr|xs|xt|xu|xv=>k_is
  case xw|xx|xy|xz|x0=>kernel_rfl
  case x1=>k_is
  case x2|x3|x4|x5|x6=>kernel_rfl
  case x7=>k_is
  case x8|x9|ya|yb|yc=>kernel_rfl
  case yd=>k_is
  case ye|yf|yg|yh|yi=>kernel_rfl
  case yj=>k_is
  case yk|yl|ym|yn|yo=>kernel_rfl
  case yp=>k_is
  case yq|yr|ys|yt|yu=>kernel_rfl
  case yv|yw|yx|yy|yz|y0|y1|y2|y3=>k_is
  case y4=>kernel_rfl
  case y5=>k_is
  case y6=>kernel_rfl
  case y7|y8|y9|za=>k_is
  case zb=>kernel_rfl
  case zc=>k_is
  case zd=>kernel_rfl
  case ze|zf|zg|zh=>k_is
  case zi=>kernel_rfl
  case zj=>k_is
  case zk=>kernel_rfl
  case zl|zm|zn|zo=>k_is
  case zp=>kernel_rfl
  case zq=>k_is
  case zr=>kernel_rfl
  case zs|zt|zu|zv=>k_is
  case zw=>kernel_rfl
  case zx=>k_is
  case zy=>kernel_rfl
  case zz|z0|z1|z2=>k_is
  case z3=>kernel_rfl
  case z4=>k_is
  case z5=>kernel_rfl
  case z6|z7|z8|z9|aa=>k_is
  case ab=>kernel_rfl
  case ac|ad|ae|af=>k_is
  case ag=>kernel_rfl
  case ah|ai|aj|ak=>k_is
  case al=>kernel_rfl
  case am|an|ao|ap=>k_is
  case aq=>kernel_rfl
  case ar|au|av|aw=>k_is
  case ax=>kernel_rfl
  case ay|az|a0|a1=>k_is
  case a2=>kernel_rfl
  case a3|a4|a5=>k_is
 obtain ⟨uo,ud,a6,a7,a8,u1,a9,ub,ba,bb,ue,bc,uf,bd,be,bf,bg,bh,bi,u2,bj,bk,bl,bm,bn,bo,bp,bq,br,bs,bt,bu,up,bv,bw,bx,bz,b0,b1,b2,b3,b4,b5,b6,b7,b8,b9,ca,cb,cc⟩:DL.DefAt (L2.bR KX) mg "_law_row" Law.BJ∧DL.DefAt (L2.bR KX) mg "_law_cell" Law.Ce∧DL.DefAt (L2.bR KX) mg "_law_wishes" Law.rK∧DL.DefAt (L2.bR KX) mg "_law_best" Law.Cd∧DL.DefAt (L2.bR KX) mg "_law_order_dealt" Law.rQ∧DL.DefAt (L2.bR KX) mg "_law_sure" Law.rn∧DL.DefAt (L2.bR KX) mg "_law_heights" Law.rF∧DL.DefAt (L2.bR KX) mg "copied" Law.lB∧DL.DefAt (L2.bR KX) mg "_law_kept" Law.rm∧DL.DefAt (L2.bR KX) mg "_law_worse" Law.BV∧DL.DefAt (L2.bR KX) mg "things_in" Law.B1∧DL.DefAt (L2.bR KX) mg "is_square" Law.B0∧DL.DefAt (L2.bR KX) mg "is_whole" Law.BN∧DL.DefAt (L2.bR KX) mg "is_below" Law.BL∧DL.DefAt (L2.bR KX) mg "first_wrong" Law.Cg∧DL.DefAt (L2.bR KX) mg "are_unlike" Law.BW∧DL.DefAt (L2.bR KX) mg "has_each_once" Law.CH∧DL.DefAt (L2.bR KX) mg "is_dealing" Law.BY∧DL.DefAt (L2.bR KX) mg "ones_behind" Law.Ch∧DL.DefAt (L2.bR KX) mg "likes" Law.A6∧DL.DefAt (L2.bR KX) mg "goes" Law.AF∧DL.DefAt (L2.bR KX) mg "dealing_of" Law.qX∧DL.DefAt (L2.bR KX) mg "best_left" Law.rq∧DL.DefAt (L2.bR KX) mg "has_form_of_way" Law.Dx∧DL.DefAt (L2.bR KX) mg "is_left_over" Law.CD∧DL.DefAt (L2.bR KX) mg "things_along" Law.rG∧DL.DefAt (L2.bR KX) mg "is_betterment" Law.sg∧DL.DefAt (L2.bR KX) mg "greatest_divisor" Law.Dw∧DL.DefAt (L2.bR KX) mg "fraction" Law.BK∧DL.DefAt (L2.bR KX) mg "plus" Law.AH∧DL.DefAt (L2.bR KX) mg "total" Law.A7∧DL.DefAt (L2.bR KX) mg "has_worth" Law.BZ∧DL.DefAt (L2.bR KX) mg "less" Law.AG∧DL.DefAt (L2.bR KX) mg "is_row_of_shares" Law.mW∧DL.DefAt (L2.bR KX) mg "why_no_table" Law.rH∧DL.DefAt (L2.bR KX) mg "is_table" Law.BM∧DL.DefAt (L2.bR KX) mg "hands_that_rise" Law.mU∧DL.DefAt (L2.bR KX) mg "steps_up" Law.qL∧DL.DefAt (L2.bR KX) mg "rises_from" Law.qY∧DL.DefAt (L2.bR KX) mg "are_heights" Law.mQ∧DL.DefAt (L2.bR KX) mg "can_be_handed" Law.CG∧DL.DefAt (L2.bR KX) mg "is_share_ring" Law.kC∧DL.DefAt (L2.bR KX) mg "is_part" Law.BG∧DL.DefAt (L2.bR KX) mg "are_parts" Law.mK∧DL.DefAt (L2.bR KX) mg "share_in" Law.qK∧DL.DefAt (L2.bR KX) mg "mixed" Law.qv∧DL.DefAt (L2.bR KX) mg "_law_says" Law.Cf∧DL.DefAt (L2.bR KX) mg "_law_lists_kept" Law.kE∧DL.DefAt (L2.bR KX) mg "_law_wider_well" Law.DO∧DL.DefAt (L2.bR KX) mg "law" Law.zY:=by
  dsimp only [L2.bR]
  refine ⟨?_,?_,?_,?_,?_,?_,?_,?_,?_,?_,?_,?_,?_,?_,?_,?_,?_,?_,?_,?_,?_,?_,?_,?_,?_,?_,?_,?_,?_,?_,?_,?_,?_,?_,?_,?_,?_,?_,?_,?_,?_,?_,?_,?_,?_,?_,?_,?_,?_,?_⟩ <;> (refine' DL.KF KX G ?a ?l ?c ?k; (case a | l | c | k=>k_is))
 have cd:DL.DefAtD (L2.bR KX) mg "order_of" Law.Cz [Value.none]:=by
  dsimp only [L2.bR]
  refine' DL.E1 KX G ?a ?l ?t ?c ?k
  case a|l|t|c|k=>k_is
 have ce:DL.DefAtD (L2.bR KX) mg "by_order" Law.BX [Value.none]:=by
  dsimp only [L2.bR]
  refine' DL.E1 KX G ?a ?l ?t ?c ?k
  case a|l|t|c|k=>k_is
 refine DL.KH hmg cc (fun _ _ _ _ _ _ us hl=>match us,hl with | [_],_=>rfl) fun f fd Fn base=>?_
 have u3:=Law.BU.2 (P:=P0) (w:=w) (base:=base) T a6 (Law.tW T ud) (Law.yZ T uo)
 have ug:=Law.DN.2 (P:=P0) (w:=w) (base:=base) T a8 (Law.Bs.2 T a7)
 have uq:=Law.QK (P:=P0) (w:=w) (base:=base) T xe (Law.nS T ub) uj
 have ur:=Law.P9 (P:=P0) (w:=w) (base:=base) T xf (Law.nS T ub) ui
 have ut:=Law.P8 (P:=P0) (w:=w) (base:=base) T xg (Law.nS T ub) um
 have u4:=Law.OW (P:=P0) (w:=w) (base:=base) T xi (Law.nS T ub) uc uk
 have uu:=Law.QJ (P:=P0) (w:=w) (base:=base) T xj (Law.nS T ub) ul uc
 have u5:=Law.Bx.2 (P:=P0) (w:=w) (base:=base) T bc (Law.oG.2 T ue)
 have uv:=Law.qE.2 (P:=P0) (w:=w) (base:=base) T bd (Law.pV.2 T uf)
 have u6:=Law.qW.2 (P:=P0) (w:=w) (base:=base) T be uv
 have uh:=Law.wK.2 (P:=P0) (w:=w) (base:=base) T bf u6
 have uw:=Law.C0.2 (P:=P0) (w:=w) (base:=base) T bg uh
 have ux:=Law.wM.2 (P:=P0) (w:=w) (base:=base) T bh (Law.oG.2 T ue) uh
 have uy:=Law.Ai.2 (P:=P0) (w:=w) (base:=base) T bt (Law.Fj.2 T bs (Law.HN.2 T br (Law.pV.2 T uf) (Law.J0.2 T bq)))
 have u7:=Law.IG.2 (P:=P0) (w:=w) (base:=base) T bu (Law.pV.2 T uf)
 have uz:=Law.qF.2 (P:=P0) (w:=w) (base:=base) T bx (Law.wQ.2 T bw (Law.xQ.2 T bv u7 uy (Law.tx.2 T up)) uy) u5
 have u8:=Law.OV (P:=P0) (w:=w) (base:=base) (Law.BH.2 T xk uw u5 (Law.Fi.2 T bj) ux uk uc) (Law.rC.2 T xl (Law.wL.2 T ce (Law.oG.2 T ue) (Law.wN.2 T cd uw u6 (vz base) v0) (Law.Bv.2 T bl) (Law.Cb.2 T bk)) ux v1 v2 v3 uj) (Law.xJ.2 T xm (Law.rD.2 T bp uh (Law.Dr.2 T bm) (Law.Cy.2 T bn (Law.oG.2 T ue) uv) (Law.wP.2 T bo (Law.wZ.2 T bi)) (Law.uE.2 T u2)) ux un) (Law.wO.2 T xn (Law.qV.2 T b2 (Law.pV.2 T uf) (Law.Bj.2 T b0 (Law.Dq.2 T bz (Law.tx.2 T up) (Law.uE.2 T u2))) (Law.Cc.2 T b1)) uz ui) (Law.xK.2 T xo (Law.xL.2 T b4 uv uh) uz (Law.Jv.2 T b3) uc ul) (Law.rJ.2 T xp (Law.Ah.2 T b8 (Law.Bi.2 T b7 uy)) (Law.qS.2 T b6 (Law.A8.2 T b5 uw (Law.tx.2 T up) u7)) uz um)
 have u9:=Law.Bu.2 (P:=P0) (w:=w) (base:=base) T b9 u8
 exact Law.yV.2 T Fn (Law.tW T ud) (Law.Dp.2 T cb (Law.tW T ud) u3 ug (Law.vH.2 T u1) ut ur uu u9 uq u8) (Law.Do.2 T ca (Law.tW T ud) (Law.yZ T uo) u4 uu ul uk uc) u3 (Law.yZ T uo) ug (Law.vH.2 T u1) (Law.Bt.2 T ba ug (Law.Cw.2 T a9 ug) ut ur uq um ui uj) (Law.wJ.2 T bb) (Law.QI T xh (Law.nS T ub) un) uq u4 uu ur ut u9 un
end
